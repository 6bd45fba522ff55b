import PyProof.Rows.All
import Wide.All
import OpenK.AllK
import Wide.FinOn
import HandS.Evl
import HandS.Codes
import HandS.Iter
import HandS.Dict
import HandS.Text
import HandS.Words
import HandS.Walk
import HandS.IsInst
import HandS.Steps
import HandS.More
import HandS.ReplaceList
import HandS.ReplaceLit
import HandS.Replace
import PySem.Challenge.RW_kilnyard_k08_ends_of_links
set_option Elab.async false
set_option linter.all false
set_option maxRecDepth 100000
set_option maxHeartbeats 4000000
/-! Kn: what all our proofs share: named relations, values, comprehensions, promises of pure defs. -/
namespace Kn
open PySem PySem.Spec PyProof.Rows L2 Evl SX

/-! ### relations with a name -/
def rAddStr : R2 := fun x y H Q => ∃ i j, x = .str i ∧ y = .str j ∧ i.length + j.length ≤ sizeLine ∧ Q (.str (i ++ j)) H
theorem op_addS {X : Cx} : OpR X (binaryOp .Add) rAddStr := op_add_str
def rLenStr : List V → Hp → VK → Prop := fun xs H Q => ∃ z, xs = [.str z] ∧ z.length ≤ sizeLine ∧ Q (.int z.length) H
theorem cr_lenStr {X : Cx} : CallR X (.builtin "len") rLenStr := call_len_str
theorem cr_lenSeq {X : Cx} : CallR X (.builtin "len") (rLenS X.K) := call_len_seq
def rOrd : List V → Hp → VK → Prop := fun xs H Q => ∃ x, xs = [.str x] ∧ x.length = 1 ∧ Q (.int (x.cps.getD 0 0 : Nat)) H
theorem cr_ord {X : Cx} : CallR X (.builtin "ord") rOrd := call_ord
def rInt1 : List V → Hp → VK → Prop := fun xs H Q => (∃ i, xs = [.int i] ∧ Q (.int i) H) ∨ ∃ k, xs = [.bl k] ∧ Q (.int (if k then 1 else 0)) H
theorem cr_int1 {X : Cx} : CallR X (.type "int") rInt1 := call_int1
def rAbs : List V → Hp → VK → Prop := fun xs H Q => ∃ i, xs = [.int i] ∧ Q (.int (if i < 0 then -i else i)) H
theorem cr_abs {X : Cx} : CallR X (.builtin "abs") rAbs := call_abs
def rJoin (K : PySem.W.Frag) : V → List V → Hp → VK → Prop := fun x xs H Q => ∃ a p, ∃ ys : List Str, x = .str a ∧ xs = [.ref p] ∧ (SqL K H p (ys.map V.str) ∨ SqT K H p (ys.map V.str)) ∧ (ys.map (·.length)).sum + ys.length * a.length ≤ 16777216 ∧ Q (.str (Txt.join a ys)) H
theorem pe_joinN {X : Cx} {e : Expr} {to te : TE} (h : PE X e (tM1 (fun x xs H Q => ∃ a p, ∃ ys : List Str, x = .str a ∧ xs = [.ref p] ∧ (SqL X.K H p (ys.map V.str) ∨ SqT X.K H p (ys.map V.str)) ∧ (ys.map (·.length)).sum + ys.length * a.length ≤ 16777216 ∧ Q (.str (Txt.join a ys)) H) to te)) : PE X e (tM1 (rJoin X.K) to te) := h
theorem cr_isi {X : Cx} : CallR X (.builtin "isinstance") (rIsi X.K) := call_isi

/-! ### values -/
section
variable {K : PySem.W.Frag} {σ : L2.St} {H H' : Hp} {ta tb te tc : TE} {t u : TT} {x y z v : V}
theorem val_abs (i : Int) : (if i < 0 then -i else i) = (i.natAbs : Int) := by split <;> omega
theorem rc_abs {i : Int} : RC rAbs [.int i] H (.int (i.natAbs : Int)) := fun H1 _ _ q => ⟨i, rfl, by rw [val_abs]; exact q H1 (Ex.refl H1)⟩
theorem rc_int {i : Int} : RC rInt1 [.int i] H (.int i) := fun H1 _ _ q => .inl ⟨i, rfl, q H1 (Ex.refl H1)⟩
theorem rc_intB {b : Bool} : RC rInt1 [.bl b] H (.int (if b then 1 else 0)) := fun H1 _ _ q => .inr ⟨b, rfl, q H1 (Ex.refl H1)⟩
theorem rc_ord {c : Nat} : RC rOrd [.str (S [c])] H (.int (c : Int)) := fun H1 _ _ q => ⟨S [c], rfl, rfl, q H1 (Ex.refl H1)⟩
theorem rc_lenS {l : List Nat} (h : l.length ≤ 100000) : RC rLenStr [.str (S l)] H (.int (l.length : Int)) := fun H1 _ _ q => ⟨S l, rfl, by rw [S_len]; exact sz_of h, by rw [S_len]; exact q H1 (Ex.refl H1)⟩
theorem rv_addS {a b : List Nat} (h : a.length + b.length ≤ 100000) : RV rAddStr (.str (S a)) (.str (S b)) H (.str (S (a ++ b))) := fun H1 _ _ q =>
  ⟨S a, S b, rfl, rfl, by rw [S_len, S_len]; exact sz_of h, by rw [S_cat]; exact q H1 (Ex.refl H1)⟩
theorem rv_mod {i j : Int} (h : 0 < j) : RV (rI (fun _ j => 0 < j) fun i j => .int (i % j)) (.int i) (.int j) H (.int (i % j)) := rv_I h
theorem rv_fdiv {i j : Int} (h : CDiv i j) : RV (rI CDiv fun i j => .int (i / j)) (.int i) (.int j) H (.int (i / j)) := rv_I h
theorem rv_mul {i j : Int} (h : CMul i j) : RV (rI CMul fun i j => .int (i * j)) (.int i) (.int j) H (.int (i * j)) := rv_I h
theorem S1 (x : Str) {l : List Nat} (h : x.cps.toList = l) : x = S l := TL.ext_tl h
theorem ev_chain {r r' : R2} {k b : Bool} (ha : Ev ta σ H x) (hb : Ev tb σ H y) (hr : RV r x y H (.bl k)) (hc : Ev tc σ H z) (hr' : RV r' y z H (.bl b)) : Ev (tChain r r' ta tb tc) σ H (.bl (k && b)) := fun H1 e Q q =>
  ha H1 e _ fun H2 e2 => hb H2 (e.trans e2) _ fun H3 e3 => hr H3 ((e.trans e2).trans e3) _ fun H4 e4 => ⟨k, rfl, by
    have e14 := (e2.trans e3).trans e4
    cases k with
    | true =>
      show tc σ H4 fun w' H5 => r' y w' H5 Q
      exact hc H4 (e.trans e14) _ fun H5 e5 => hr' H5 ((e.trans e14).trans e5) Q fun H6 e6 => q H6 ((e14.trans e5).trans e6)
    | false =>
      show Q (.bl false) H4
      exact q H4 e14⟩
theorem ev_idxS {l : List Nat} {i : Int} {c : Nat} (ha : Ev ta σ H (.str (S l))) (hb : Ev tb σ H (.int i)) (h : l.length ≤ 100000) (hat : atI l i = some c) : Ev (tOp rIxS ta tb) σ H (.str (S [c])) := ev_op ha hb (rv_ixS (w := S l) (by rw [S_len]; exact h) hat)
theorem atI_nat' {α : Type} {xs : List α} {i : Int} {j : Nat} {v : α} (hi : i = (j : Int)) (h : xs[j]? = some v) : atI xs i = some v := by
  subst hi
  exact atI_nat h
theorem ev_join {s : List Nat} {ys : List (List Nat)} (hs : Ev ta σ H (.str (S s))) (hl : EvL tb σ H (ys.map fun l => V.str (S l))) (hz : (ys.map (·.length)).sum + ys.length * s.length ≤ 16777216) : Ev (tM1 (rJoin K) ta tb) σ H (.str (S (TL.joinL s ys))) := fun H1 e Q q =>
  hs H1 e _ fun H2 e2 => ⟨⟨_, rfl⟩, hl H2 (e.trans e2) _ fun p H3 _ e3 hp => ⟨S s, p, ys.map S, rfl, rfl, .inl (.inl (.inl (by rw [List.map_map]; exact hp))), by
    rw [SX.lens, List.length_map, S_len]
    exact hz, by
    rw [SX.join_S]
    exact q H3 (e2.trans e3)⟩⟩
theorem ev_slS {to tp : TO} {l : List Nat} {lo hi : Option Int} (h : Ev te σ H (.str (S l))) (h1 : EvO to σ H lo) (h2 : EvO tp σ H hi) (hz : l.length ≤ 100000) : Ev (tSl rSlS te to tp) σ H (.str (cutS (S l) lo hi)) := fun H1 e _ q =>
  h H1 e _ fun H2 e2 => h1 H2 (e.trans e2) _ fun H3 e3 => h2 H3 ((e.trans e2).trans e3) _ fun H4 e4 => ⟨S l, rfl, by rw [S_len]; exact sz_of hz, q H4 ((e2.trans e3).trans e4)⟩
theorem ev_isi {T : String} {c : String} {b : Bool} (ha : Ev ta σ H x) (ht : TyX K H x (.type T)) (hb : kitB T c = some b) (hm : ∀ H1, Ex H H1 → TyX K H1 x (.type T)) : Ev (tCB (rIsi K) (tCons ta (tCons (tC (.ty c)) tNil))) σ H (.bl b) := fun H1 e Q q =>
  ha H1 e _ fun H2 e2 => ⟨x, .ty c, .type T, .type c, b, rfl, .ty c, hm H2 (e.trans e2), kit_ty hb, q H2 e2⟩
theorem ev_all {τ : Type} {xs : List τ} {p : τ → Bool} (ha : EvL ta σ H (xs.map fun a => V.bl (p a))) : Ev (tCB (rAll K) (tCons ta tNil)) σ H (.bl (xs.all p)) := fun H1 e Q q =>
  ha H1 e _ fun a H2 _ e2 h2 => ⟨a, xs.map p, rfl, sq_of (by rw [List.map_map]; exact h2), by
    have hh : (xs.map p).all id = xs.all p := by rw [List.all_map]; rfl
    rw [hh]
    exact q H2 e2⟩

/-! ### comprehensions: no test, a new list of what each item gives -/
theorem given_all {α : Type} {xs : List α} {f : α → V} {d : V} : given xs.length (fun _ => true) (fun i => (xs[i]?.map f).getD d) = xs.map f := by
  unfold given
  rw [List.filter_eq_self.mpr (fun _ _ => rfl)]
  refine List.ext_getElem (by simp) fun i h1 h2 => ?_
  simp at h1 h2
  simp [h2]
theorem et_yes {H : Hp} : EvT tYes σ H true := fun H1 _ _ q => q H1 (Ex.refl H1)
theorem el_lcM {τ : Type} {a : Addr} {ns : List τ} {g f : τ → V} {tl : TE} {j : Nat} {vs : List Nat} (h : Ev tl σ H (.ref a)) (hx : SqL K H a (ns.map g)) (hz : ns.length ≤ 40000) (hw : ∀ x, wipe ((wipe σ vs).set j (some x)) vs = wipe σ vs)
    (he : ∀ n ∈ ns, ∀ H1, Ex H H1 → Ev te ((wipe σ vs).set j (some (g n))) H1 (f n)) : EvL (tLc (iList K tl) (gName j) tYes te vs) σ H (ns.map f) := by
  have k := el_lcL (K := K) (te := te) (t := tYes) (j := j) (vs := vs) (fun _ => true) (fun i => (ns[i]?.map f).getD .non) h hx (by rw [List.length_map]; exact hz) hw (fun _ _ H1 _ _ => et_yes) (fun i x H1 e hi _ => by
    rw [List.getElem?_map] at hi
    cases hn : ns[i]? with
    | none => rw [hn] at hi; cases hi
    | some n =>
      rw [hn] at hi
      cases Option.some.inj hi
      exact he n (List.mem_of_getElem? hn) H1 e)
  rw [List.length_map, given_all] at k
  exact k
theorem el_lcN {τ : Type} {ns : List τ} {g f : τ → V} {tl : TE} {j : Nat} {vs : List Nat} (h : EvL tl σ H (ns.map g)) (hz : ns.length ≤ 40000) (hw : ∀ x, wipe ((wipe σ vs).set j (some x)) vs = wipe σ vs)
    (he : ∀ n ∈ ns, ∀ H1, Ex H H1 → Ev te ((wipe σ vs).set j (some (g n))) H1 (f n)) : EvL (tLc (iList K tl) (gName j) tYes te vs) σ H (ns.map f) := by
  have k := el_lcNL (K := K) (te := te) (t := tYes) (j := j) (vs := vs) (fun _ => true) (fun i => (ns[i]?.map f).getD .non) h (by rw [List.length_map]; exact hz) hw (fun _ _ H1 _ _ => et_yes) (fun i x H1 e hi _ => by
    rw [List.getElem?_map] at hi
    cases hn : ns[i]? with
    | none => rw [hn] at hi; cases hi
    | some n =>
      rw [hn] at hi
      cases Option.some.inj hi
      exact he n (List.mem_of_getElem? hn) H1 e)
  rw [List.length_map, given_all] at k
  exact k
theorem el_lcR {n : Int} {f : Nat → V} {ta : TA} {j : Nat} {vs : List Nat} (h : EvA ta σ H [.int n]) (hn : 0 ≤ n ∧ n ≤ 40000) (hw : ∀ x, wipe ((wipe σ vs).set j (some x)) vs = wipe σ vs)
    (he : ∀ (i : Nat) H1, Ex H H1 → (i : Int) < n → Ev te ((wipe σ vs).set j (some (.int (i : Int)))) H1 (f i)) : EvL (tLc (iRng1 ta) (gName j) tYes te vs) σ H ((List.range n.toNat).map f) := by
  have k := el_lcR1 (te := te) (t := tYes) (j := j) (vs := vs) (fun _ => true) f h hn hw (fun _ H1 _ _ => et_yes) (fun i H1 e hi _ => he i H1 e hi)
  unfold given at k
  rw [List.filter_eq_self.mpr (fun _ _ => rfl)] at k
  exact k
/-- over the signs of a text -/
theorem el_lcS {l : List Nat} {f : Nat → V} {ts : TE} {j : Nat} {vs : List Nat} (h : Ev ts σ H (.str (S l))) (hz : l.length ≤ 40000) (hw : ∀ x, wipe ((wipe σ vs).set j (some x)) vs = wipe σ vs)
    (he : ∀ c ∈ l, ∀ H1, Ex H H1 → Ev te ((wipe σ vs).set j (some (.str (S [c])))) H1 (f c)) : EvL (tLc (iStr ts) (gName j) tYes te vs) σ H (l.map f) := fun H0 e Q q => h H0 e _ fun H1 e1 => ⟨S l, rfl, fun Dl hD => by
  have hl : (S l).cps.size = l.length := by simp [S]
  refine lc_it walk_str (Cw H1 (fun _ => true) (fun i => (l[i]?.map f).getD .non) Dl) ⟨hD, Ex.new hD, upd_same⟩ (fun _ _ _ _ => trivial) (fun i x H2 H3 hi p y => ?_) (fun H2 p => ?_)
  · obtain ⟨rfl, c, hc, rfl⟩ := y
    have hc' : l[i]? = some c := by simpa [S] using hc
    refine ⟨hw _, cw_turn p (by rw [hl] at hi; omega) et_yes (fun _ => ?_)⟩
    rw [hc']
    exact he c (List.mem_of_getElem? hc') H1 (e.trans e1)
  · rw [hl] at p
    have := p.2.2
    rw [given_all] at this
    exact q Dl H2 (fresh_back e1 p.1) (e1.trans p.2.1) this⟩
end

/-! ### promises of pure defs: a value, a new list -/
def Rt (H : Hp) (v : V) (Q : VK) : Prop := ∀ H1, Ex H H1 → Q v H1
def Rl (H : Hp) (xs : List V) (Q : VK) : Prop := ∀ p H1, H p = none → Ex H H1 → H1 p = some (.lst xs) → Q (.ref p) H1
def sp1 {α : Type} (A : α → List V) (pre : α → Hp → Prop) (val : α → V) : Sp := fun vs H Q _ => ∃ a, vs = A a ∧ pre a H ∧ Rt H (val a) Q
def sp2 {α β : Type} (A : α → β → List V) (pre : α → β → Hp → Prop) (val : α → β → V) : Sp := fun vs H Q _ => ∃ a b, vs = A a b ∧ pre a b H ∧ Rt H (val a b) Q
def sp3 {α β γ : Type} (A : α → β → γ → List V) (pre : α → β → γ → Hp → Prop) (val : α → β → γ → V) : Sp := fun vs H Q _ => ∃ a b c, vs = A a b c ∧ pre a b c H ∧ Rt H (val a b c) Q
def sl1 {α : Type} (A : α → List V) (pre : α → Hp → Prop) (val : α → List V) : Sp := fun vs H Q _ => ∃ a, vs = A a ∧ pre a H ∧ Rl H (val a) Q
def sl2 {α β : Type} (A : α → β → List V) (pre : α → β → Hp → Prop) (val : α → β → List V) : Sp := fun vs H Q _ => ∃ a b, vs = A a b ∧ pre a b H ∧ Rl H (val a b) Q
def sl3 {α β γ : Type} (A : α → β → γ → List V) (pre : α → β → γ → Hp → Prop) (val : α → β → γ → List V) : Sp := fun vs H Q _ => ∃ a b c, vs = A a b c ∧ pre a b c H ∧ Rl H (val a b c) Q
section
variable {K : PySem.W.Frag} {σ : L2.St} {H H' : Hp} {ta : TA} {E : XK} {α β γ : Type}
theorem ev_c1 {A : α → List V} {pre : α → Hp → Prop} {val : α → V} {a : α} (h : EvA ta σ H (A a)) (hp : ∀ H1, Ex H H1 → pre a H1) : Ev (tCall (sp1 A pre val) [] E ta) σ H (val a) := fun H1 e Q q =>
  h H1 e _ fun H2 e2 => ⟨a, List.append_nil _, hp H2 (e.trans e2), fun H3 e3 => q H3 (e2.trans e3)⟩
theorem ev_c2 {A : α → β → List V} {pre : α → β → Hp → Prop} {val : α → β → V} {a : α} {b : β} (h : EvA ta σ H (A a b)) (hp : ∀ H1, Ex H H1 → pre a b H1) : Ev (tCall (sp2 A pre val) [] E ta) σ H (val a b) := fun H1 e Q q =>
  h H1 e _ fun H2 e2 => ⟨a, b, List.append_nil _, hp H2 (e.trans e2), fun H3 e3 => q H3 (e2.trans e3)⟩
theorem ev_c3 {A : α → β → γ → List V} {pre : α → β → γ → Hp → Prop} {val : α → β → γ → V} {a : α} {b : β} {c : γ} (h : EvA ta σ H (A a b c)) (hp : ∀ H1, Ex H H1 → pre a b c H1) : Ev (tCall (sp3 A pre val) [] E ta) σ H (val a b c) := fun H1 e Q q =>
  h H1 e _ fun H2 e2 => ⟨a, b, c, List.append_nil _, hp H2 (e.trans e2), fun H3 e3 => q H3 (e2.trans e3)⟩
theorem el_c1 {A : α → List V} {pre : α → Hp → Prop} {val : α → List V} {a : α} (h : EvA ta σ H (A a)) (hp : ∀ H1, Ex H H1 → pre a H1) : EvL (tCall (sl1 A pre val) [] E ta) σ H (val a) := fun H1 e Q q =>
  h H1 e _ fun H2 e2 => ⟨a, List.append_nil _, hp H2 (e.trans e2), fun p H3 hp e3 h3 => q p H3 (fresh_back e2 hp) (e2.trans e3) h3⟩
theorem el_c2 {A : α → β → List V} {pre : α → β → Hp → Prop} {val : α → β → List V} {a : α} {b : β} (h : EvA ta σ H (A a b)) (hp : ∀ H1, Ex H H1 → pre a b H1) : EvL (tCall (sl2 A pre val) [] E ta) σ H (val a b) := fun H1 e Q q =>
  h H1 e _ fun H2 e2 => ⟨a, b, List.append_nil _, hp H2 (e.trans e2), fun p H3 hp e3 h3 => q p H3 (fresh_back e2 hp) (e2.trans e3) h3⟩
theorem el_c3 {A : α → β → γ → List V} {pre : α → β → γ → Hp → Prop} {val : α → β → γ → List V} {a : α} {b : β} {c : γ} (h : EvA ta σ H (A a b c)) (hp : ∀ H1, Ex H H1 → pre a b c H1) : EvL (tCall (sl3 A pre val) [] E ta) σ H (val a b c) := fun H1 e Q q =>
  h H1 e _ fun H2 e2 => ⟨a, b, c, List.append_nil _, hp H2 (e.trans e2), fun p H3 hp e3 h3 => q p H3 (fresh_back e2 hp) (e2.trans e3) h3⟩
/-- a call one of whose arguments is a new list: f([..]) -/
theorem ev_c1L {τ : Type} {te : TE} {A : Addr → List τ → List V} {pre : Addr → List τ → Hp → Prop} {val : Addr → List τ → V} {v : V} {xs : List V} (h : EvL te σ H xs) (ns : List τ) (hA : ∀ p, A p ns = [.ref p]) (hp : ∀ p H1, Ex H H1 → H1 p = some (.lst xs) → pre p ns H1) (hv : ∀ p, val p ns = v) :
    Ev (tCall (sp2 A pre val) [] E (tCons te tNil)) σ H v := fun H1 e Q q =>
  h H1 e _ fun p H2 hn e2 h2 => ⟨p, ns, by rw [hA]; rfl, hp p H2 (e.trans e2) h2, fun H3 e3 => by
    rw [hv]
    exact q H3 (e2.trans e3)⟩
end

/-! ### a def that may be called by its name -/
structure Cl (P : Program) (w : World) (K : PySem.W.Frag) (mg : Str → Option Value) (base : Heap) (k : Nat) (x : Str) (sp : Sp) : Prop where
  ex : ∃ (f : Addr) (fd : FuncData) (ps : List Str), FnOk P w K mg base CX0 k f fd ps sp ∧ mg x = some (.ref f) ∧ PySem.W.keepIn K (.ref f) = true ∧ Binds K fd ps []
section
variable {P : Program} {w : World} {K : PySem.W.Frag} {mg : Str → Option Value} {base : Heap}
theorem cl_of {k : Nat} {x : Str} {sp : Sp} {st : Stmt} {f : Addr} {fd : FuncData} {ps : List Str} (ok : FnOk P w K mg base CX0 k f fd ps sp) (F : Fun K x x st f fd) (g : mg x = some (.ref f)) (b : Binds K fd ps []) : Cl P w K mg base k x sp := ⟨f, fd, ps, ok, g, F.kp, b⟩
variable {X : Cx} {k j : Nat} {x : Str} {sp : Sp} {p pos : Pos} {e : Expr} {es : List Expr} {t : TA}
theorem pe_cl (c : Cl X.prog X.w X.K X.mg X.base k x sp) (hr : Room j X.A) (hk : k ≤ j) (hg : Gl X x) (ha : PA X (e :: es) t)
    (hdb : (x == ("__debug__" : Str)) = false := by decide) (he : starEach (e :: es) X.env = (false, eval e X.env) :: starEach es X.env := by rfl) (hpl : (backTo pos (starEach es X.env)).any (·.1) = false := by rfl) :
    PE X (.Call (.Name x p) (e :: es) [] pos) (tCall sp [] E0 t) := by
  obtain ⟨f, fd, ps, F, hm, kp, b⟩ := c.ex
  exact pe_call F (hr.mono hk) hg hm kp b .nil pass0 ha hdb he hpl
theorem pe_cl0 (c : Cl X.prog X.w X.K X.mg X.base k x sp) (hr : Room j X.A) (hk : k ≤ j) (hg : Gl X x)
    (hdb : (x == ("__debug__" : Str)) = false := by decide) :
    PE X (.Call (.Name x p) [] [] pos) (tCall sp [] E0 tNil) := by
  obtain ⟨f, fd, ps, F, hm, kp, b⟩ := c.ex
  exact pe_call0 F (hr.mono hk) hg hm kp b .nil pass0 hdb
end
end Kn
/-! ### values, step by step -/
namespace Kn
open PySem PySem.Spec PyProof.Rows L2 Evl SX
section
variable {H : Hp}
theorem rv_eqI {a b : Int} : RV rEq (.int a) (.int b) H (.bl (decide (a = b))) := fun H1 _ _ q => ⟨rfl, by
  have e : decide (V.int a = V.int b) = decide (a = b) := by simp
  rw [e]
  exact q H1 (Ex.refl H1)⟩
theorem rv_neI {a b : Int} : RV rNe (.int a) (.int b) H (.bl (!decide (a = b))) := fun H1 _ _ q => ⟨rfl, by
  have e : decide (V.int a = V.int b) = decide (a = b) := by simp
  rw [e]
  exact q H1 (Ex.refl H1)⟩
theorem dec_S {a b : List Nat} : decide (V.str (S a) = V.str (S b)) = decide (a = b) := by
  by_cases h : a = b
  · subst h
    simp
  · rw [decide_eq_false h, decide_eq_false (fun e => h (S_inj (V.str.inj e)))]
theorem rv_eqS {a b : List Nat} : RV rEq (.str (S a)) (.str (S b)) H (.bl (decide (a = b))) := fun H1 _ _ q => ⟨rfl, by
  rw [dec_S]
  exact q H1 (Ex.refl H1)⟩
theorem rv_neS {a b : List Nat} : RV rNe (.str (S a)) (.str (S b)) H (.bl (!decide (a = b))) := fun H1 _ _ q => ⟨rfl, by
  rw [dec_S]
  exact q H1 (Ex.refl H1)⟩
theorem rv_le {a b : Int} : RV (rI0 fun i j => .bl (decide (i ≤ j))) (.int a) (.int b) H (.bl (decide (a ≤ b))) := rv_I0
theorem rv_lt {a b : Int} : RV (rI0 fun i j => .bl (decide (i < j))) (.int a) (.int b) H (.bl (decide (a < b))) := rv_I0
theorem rv_inS {c : Nat} {l : List Nat} : RV rInS (.str (S [c])) (.str (S l)) H (.bl (decide (c ∈ l))) := fun H1 _ _ q => ⟨c, S l, rfl, rfl, q H1 (Ex.refl H1)⟩
theorem rv_ninS {c : Nat} {l : List Nat} : RV rNotInS (.str (S [c])) (.str (S l)) H (.bl (!decide (c ∈ l))) := fun H1 _ _ q => ⟨c, S l, rfl, rfl, q H1 (Ex.refl H1)⟩
end
end Kn
/-! ### lists cut, texts cut, constants -/
namespace Kn
open PySem PySem.Spec PyProof.Rows L2 Evl SX
theorem cut_nat {α : Type} (xs : List α) (a b : Nat) : (xs.drop (min a xs.length)).take (min b xs.length - min a xs.length) = (xs.drop a).take (b - a) := by
  by_cases h : a ≤ xs.length
  · have e : min a xs.length = a := Nat.min_eq_left h
    rw [e, List.take_eq_take_iff, List.length_drop]
    omega
  · have e : xs.drop a = [] := List.drop_of_length_le (by omega)
    have e2 : xs.drop (min a xs.length) = [] := List.drop_of_length_le (by omega)
    rw [e, e2, List.take_nil, List.take_nil]
theorem cutV_nat {xs : List V} (a b : Nat) : cutV xs (some (a : Int)) (some (b : Int)) = (xs.drop a).take (b - a) := by
  unfold cutV
  rw [HT.sIx_nat, HT.sIx_nat]
  exact cut_nat xs a b
theorem cutV_map {τ : Type} {g : τ → V} {ns : List τ} {i j : Int} (a b : Nat) (hi : i = (a : Int)) (hj : j = (b : Int)) : cutV (ns.map g) (some i) (some j) = ((ns.drop a).take (b - a)).map g := by
  subst hi hj
  rw [cutV_nat, List.map_take, List.map_drop]
theorem join_nil : ∀ ys : List (List Nat), TL.joinL [] ys = ys.flatten
  | [] => rfl
  | [p] => by rw [List.flatten_cons, List.flatten_nil, List.append_nil]; rfl
  | p :: q :: r => by
    show p ++ ([] ++ TL.joinL [] (q :: r)) = _
    rw [join_nil (q :: r), List.nil_append, List.flatten_cons (l := p)]
section
variable {K : PySem.W.Frag} {σ : L2.St} {H H' : Hp} {ta tb te tc : TE} {t u : TT} {x y z v : V}
theorem ev_cS {x : Str} {l : List Nat} (h : x.cps.toList = l) : Ev (tC (.str x)) σ H (.str (S l)) := by
  rw [S1 x h]
  exact ev_c
theorem el_slN {τ : Type} {g : τ → V} {ns : List τ} {i j : Int} {p : Addr} {to tp : TO} (h : Ev te σ H (.ref p)) (h1 : EvO to σ H (some i)) (h2 : EvO tp σ H (some j)) (hs : SqL K H p (ns.map g)) (a b : Nat) (hi : i = (a : Int)) (hj : j = (b : Int)) :
    EvL (tSl (rSlL K) te to tp) σ H (((ns.drop a).take (b - a)).map g) := by
  rw [← cutV_map a b hi hj]
  exact el_sl h h1 h2 hs
theorem ev_slTo {to tp : TO} {l : List Nat} {i : Int} (h : Ev te σ H (.str (S l))) (h1 : EvO to σ H none) (h2 : EvO tp σ H (some i)) (hz : l.length ≤ 100000) (hi : 0 ≤ i) : Ev (tSl rSlS te to tp) σ H (.str (S (l.take i.toNat))) := by
  have k := ev_slS h h1 h2 hz
  rw [C8.cutS_slice, slice_to hi] at k
  exact k
theorem ev_slFrom {to tp : TO} {l : List Nat} {i : Int} (h : Ev te σ H (.str (S l))) (h1 : EvO to σ H (some i)) (h2 : EvO tp σ H none) (hz : l.length ≤ 100000) (hi : 0 ≤ i) : Ev (tSl rSlS te to tp) σ H (.str (S (l.drop i.toNat))) := by
  have k := ev_slS h h1 h2 hz
  rw [C8.cutS_slice, slice_from hi] at k
  exact k
theorem ev_isiB {b : Bool} (ha : Ev ta σ H (.bl b)) : Ev (tCB (rIsi K) (tCons ta (tCons (tC (.ty "bool")) tNil))) σ H (.bl true) := ev_isi (T := "bool") ha (.base (.bl b)) (by decide +kernel) fun _ _ => .base (.bl b)
/-- == of two lists of data -/
theorem eqv_lists {xs ys : List PyData} (h : PyData.eqv (.list xs) (.list ys) = b) : PyData.eqv (.list xs) (.list ys) = b := h
end
end Kn
namespace Kn
open PySem PySem.Spec PyProof.Rows L2 Evl SX
section
variable {K : PySem.W.Frag} {σ : L2.St} {H H' : Hp} {ta tb te tc : TE} {t u : TT} {x y z v : V} {D : Ends} {tu tw tz : TS}
/-- an if whose two ways meet again -/
theorem q_ifM {b : Bool} (M : L2.St → Hp → Prop) (h : EvT t σ H b) (h1 : b = true → ∀ H1, Ex H H1 → ∀ N : L2.St → Hp → Prop, (∀ σ' H', M σ' H' → N σ' H') → tu { D with nx := N } σ H1)
    (h2 : b = false → ∀ H1, Ex H H1 → ∀ N : L2.St → Hp → Prop, (∀ σ' H', M σ' H' → N σ' H') → tw { D with nx := N } σ H1) (k : ∀ σ' H', M σ' H' → tz D σ' H') : tSeq (tIfS t tu tw) tz D σ H :=
  s_if (D := { D with nx := tz D }) h (fun hb H1 e => h1 hb H1 e _ k) (fun hb H1 e => h2 hb H1 e _ k)
theorem s_next (h : D.nx σ H) : tNext D σ H := h
theorem eqD_true {p q : Addr} {xs : List V} {ds : List PyData} (hp : SqL K H p xs) (hq : SqL K H q xs) (hd : ∀ H1, Ex H H1 → DpAll K H1 xs ds) (hs : SeqAt.shaped (.list ds) = true) (hl : PyData.eqv (.list ds) (.list ds) = true) : RV (rEqD K) (.ref p) (.ref q) H (.bl true) := fun H1 e Q k =>
  ⟨.list ds, .list ds, .lst (ex_l e hp) (hd H1 e), .lst (ex_l e hq) (hd H1 e), hs, hs, by rw [hl]; exact k H1 (Ex.refl H1)⟩
end
end Kn
/-! ### rpartition; joins; more of lists -/
namespace Kn
open PySem PySem.Spec PyProof.Rows L2 Evl SX
def rRpart : V → List V → Hp → VK → Prop := fun x xs H Q => ∃ a b, x = .str a ∧ xs = [.str b] ∧ (b.length == 0) = false ∧ a.length ≤ sizeLine ∧ ∀ p, H p = none → Q (.ref p) (upd H p (.tup [.str (Txt.rpartition a b).1, .str (Txt.rpartition a b).2.1, .str (Txt.rpartition a b).2.2]))
theorem mt_rpartition {X : Cx} : MtR X "str.rpartition" rRpart := by
  intro pins s σ H x xs v us Q I rx rs h
  obtain ⟨a, b, rfl, rfl, hb, hz, h⟩ := h
  obtain ⟨t, rfl⟩ := rx
  cases rs with
  | cons r1 rs =>
    cases rs
    obtain ⟨u, rfl⟩ := r1
    refine call_meets F.slot_str_rpartition (typeIs_str _ _ _) F.entry_str_rpartition (F.args_str_rpartition_2 _ _) (meets_str_rpartition a b t u hb hz) ?_
    unfold Txt.rpartition at h
    revert h
    cases Builtin.Str.lastOccurrence a b 0 a.length with
    | none => intro h; exact laid_parts I h
    | some i => intro h; exact laid_parts I h
section
variable {K : PySem.W.Frag} {σ : L2.St} {H H' : Hp} {ta tb te tc : TE} {t u : TT} {x y z v : V}
theorem ev_rpart0 {l m : List Nat} (ha : Ev ta σ H (.str (S l))) (hb : Ev tb σ H (.str (S m))) (hm : m ≠ []) (hl : l.length ≤ 100000) : Ev (tOp (rIxT K) (tM1 rRpart ta tb) (tC (.int 0))) σ H (.str (Txt.rpartition (S l) (S m)).1) := fun H1 e Q q =>
  ha H1 e _ fun H2 e2 => ⟨⟨_, rfl⟩, hb H2 (e.trans e2) _ fun H3 e3 => ⟨S l, S m, rfl, rfl, by
    rw [S_len]
    cases m with
    | nil => exact absurd rfl hm
    | cons a r => rfl, by rw [S_len]; exact sz_of hl, fun p hp =>
      ⟨p, _, 0, _, rfl, rfl, st_of upd_same, atI_nat (j := 0) rfl, q _ ((e2.trans e3).trans (Ex.new hp))⟩⟩⟩
theorem ev_joinV {s : List Nat} {ys : List (List Nat)} {p : Addr} (hs : Ev ta σ H (.str (S s))) (hl : Ev tb σ H (.ref p)) (hp : SqL K H p (ys.map fun l => V.str (S l))) (hz : (ys.map (·.length)).sum + ys.length * s.length ≤ 16777216) : Ev (tM1 (rJoin K) ta tb) σ H (.str (S (TL.joinL s ys))) := fun H1 e Q q =>
  hs H1 e _ fun H2 e2 => ⟨⟨_, rfl⟩, hl H2 (e.trans e2) _ fun H3 e3 => ⟨S s, p, ys.map S, rfl, rfl, .inl (by rw [List.map_map]; exact ex_l ((e.trans e2).trans e3) hp), by
    rw [SX.lens, List.length_map, S_len]
    exact hz, by
    rw [SX.join_S]
    exact q H3 (e2.trans e3)⟩⟩
theorem el_slTo {τ : Type} {g : τ → V} {ns : List τ} {j : Int} {p : Addr} {to tp : TO} (h : Ev te σ H (.ref p)) (h1 : EvO to σ H none) (h2 : EvO tp σ H (some j)) (hs : SqL K H p (ns.map g)) (b : Nat) (hj : j = (b : Int)) :
    EvL (tSl (rSlL K) te to tp) σ H ((ns.take b).map g) := by
  have e : cutV (ns.map g) none (some j) = (ns.take b).map g := by
    subst hj
    have k := cutV_nat (xs := ns.map g) 0 b
    unfold cutV at k ⊢
    rw [HT.sIx_none, HT.sIx_nat]
    rw [HT.sIx_nat, HT.sIx_nat, Nat.zero_min] at k
    rw [k, List.drop_zero, Nat.sub_zero, List.map_take]
  rw [← e]
  exact el_sl h h1 h2 hs
theorem ev_isiL {p : Addr} {xs : List V} (ha : Ev ta σ H (.ref p)) (h : H p = some (.lst xs)) : Ev (tCB (rIsi K) (tCons ta (tCons (tC (.ty "list")) tNil))) σ H (.bl true) := ev_isi (T := "list") ha (.base (.lst h)) (by decide +kernel) fun _ e => .base (.lst (e _ _ h))
theorem ev_isiS {l : Str} (ha : Ev ta σ H (.str l)) : Ev (tCB (rIsi K) (tCons ta (tCons (tC (.ty "str")) tNil))) σ H (.bl true) := ev_isi (T := "str") ha (.base (.str l)) (by decide +kernel) fun _ _ => .base (.str l)
theorem rv_ge {a b : Int} : RV (rI0 fun i j => .bl (decide (j ≤ i))) (.int a) (.int b) H (.bl (decide (b ≤ a))) := rv_I0
theorem rv_gt {a b : Int} : RV (rI0 fun i j => .bl (decide (j < i))) (.int a) (.int b) H (.bl (decide (b < a))) := rv_I0
theorem rv_pow {i j : Int} (h : CPow i j) : RV (rI CPow fun i j => .int (i ^ j.toNat)) (.int i) (.int j) H (.int (i ^ j.toNat)) := rv_I h
end
theorem joinL_snoc (s x : List Nat) : ∀ {l : List (List Nat)}, l ≠ [] → TL.joinL s (l ++ [x]) = TL.joinL s l ++ (s ++ x)
  | [], h => absurd rfl h
  | [p], _ => rfl
  | p :: q :: r, _ => by
    show p ++ (s ++ TL.joinL s ((q :: r) ++ [x])) = (p ++ (s ++ TL.joinL s (q :: r))) ++ (s ++ x)
    rw [joinL_snoc s x (List.cons_ne_nil q r)]
    simp only [List.append_assoc]
theorem joinL_ne {s p : List Nat} {r : List (List Nat)} (h : p ≠ []) : TL.joinL s (p :: r) ≠ [] := by
  cases r with
  | nil => exact h
  | cons q r =>
    intro z
    have : p ++ (s ++ TL.joinL s (q :: r)) = [] := z
    exact h (List.append_eq_nil_iff.mp this).1
theorem joinL_len (s : List Nat) : ∀ l : List (List Nat), (TL.joinL s l).length ≤ (l.map (·.length)).sum + l.length * s.length
  | [] => Nat.zero_le _
  | [p] => by
    show p.length ≤ p.length + 0 + 1 * s.length
    omega
  | p :: q :: r => by
    have ih := joinL_len s (q :: r)
    show (p ++ (s ++ TL.joinL s (q :: r))).length ≤ p.length + ((q :: r).map (·.length)).sum + ((q :: r).length + 1) * s.length
    rw [List.length_append, List.length_append, Nat.succ_mul]
    omega
theorem sum_le {l : List (List Nat)} {n : Nat} (h : ∀ p ∈ l, p.length ≤ n) : (l.map (·.length)).sum ≤ l.length * n := by
  induction l with
  | nil => simp
  | cons p r ih =>
    have h1 := h p List.mem_cons_self
    have h2 := ih fun q hq => h q (List.mem_cons_of_mem _ hq)
    rw [List.map_cons, List.sum_cons, List.length_cons, Nat.succ_mul]
    omega
theorem at_one {l : List Nat} {c i : Nat} : StrLaws.At (S l) (S [c]) (S l).length i ↔ l[i]? = some c := by
  rw [TL.at_iff (x := S l) (y := S [c]) (List.cons_ne_nil _ _)]
  show ((l.drop i).take 1 == [c]) = true ↔ l[i]? = some c
  rw [beq_iff_eq]
  constructor
  · intro h
    have e := congrArg (fun z : List Nat => z[0]?) h
    simpa using e
  · intro h
    obtain ⟨hi, e⟩ := List.getElem?_eq_some_iff.mp h
    rw [List.drop_eq_getElem_cons hi, e]
    rfl
theorem rpart_none {l : List Nat} {c : Nat} (h : c ∉ l) : (Txt.rpartition (S l) (S [c])).1 = S [] := by
  unfold Txt.rpartition
  rcases StrLaws.last_spec (S l) (S [c]) with ⟨h0, hn⟩ | ⟨i, h0, hi, hn⟩
  · rw [h0]
    rfl
  · exact absurd (List.mem_of_getElem? (at_one.mp hi)) h
theorem rpart_some {p q : List Nat} {c : Nat} (h : c ∉ q) : (Txt.rpartition (S (p ++ c :: q)) (S [c])).1 = S p := by
  have hp : (p ++ c :: q)[p.length]? = some c := by simp
  unfold Txt.rpartition
  rcases StrLaws.last_spec (S (p ++ c :: q)) (S [c]) with ⟨h0, hn⟩ | ⟨i, h0, hi, hn⟩
  · exact absurd (at_one.mpr hp) (hn _)
  · rw [h0]
    have e : i = p.length := by
      have h1 := at_one.mp hi
      rcases Nat.lt_trichotomy i p.length with z | z | z
      · exact absurd (at_one.mpr hp) (hn _ z)
      · exact z
      · rw [List.getElem?_append_right (by omega)] at h1
        obtain ⟨k, hk⟩ : ∃ k, i - p.length = k + 1 := ⟨i - p.length - 1, by omega⟩
        rw [hk, List.getElem?_cons_succ] at h1
        exact absurd (List.mem_of_getElem? h1) h
    subst e
    show PySem.Builtin.Str.strSub (S (p ++ c :: q)) 0 p.length = S p
    refine TL.ext_tl ?_
    rw [TL.tl_strSub]
    show ((p ++ c :: q).drop 0).take (p.length - 0) = p
    simp
end Kn
/-! ### rules that name the written part: for the elements of a comprehension -/
namespace Kn
open PySem PySem.Spec PyProof.Rows L2 Evl SX
section
variable {X : Cx} {K : PySem.W.Frag}
theorem sl_listK (h : X.K = K) : SlR X (rSlL K) := by subst h; exact sl_list
theorem sl_tupK (h : X.K = K) : SlR X (rSlT K) := by subst h; exact sl_tup
theorem ix_listK (h : X.K = K) : IxR X (rIxL K) := by subst h; exact ix_list
theorem ix_tupK (h : X.K = K) : IxR X (rIxT K) := by subst h; exact ix_tup
theorem cr_lenSeqK (h : X.K = K) : CallR X (.builtin "len") (rLenS K) := by subst h; exact cr_lenSeq
theorem cr_isiK (h : X.K = K) : CallR X (.builtin "isinstance") (rIsi K) := by subst h; exact cr_isi
theorem cr_allK (h : X.K = K) (hc : X.calm = true) : CallR X (.builtin "all") (rAll K) := by subst h; exact cr_all hc
theorem op_in_seqK (h : X.K = K) : OpR X (compareOp .In) (rIn K false) := by subst h; exact op_in_seq
theorem op_notIn_seqK (h : X.K = K) : OpR X (compareOp .NotIn) (rIn K true) := by subst h; exact op_notIn_seq
theorem pe_joinK {e : Expr} {to te : TE} (hK : X.K = K) (h : PE X e (tM1 (fun x xs H Q => ∃ a p, ∃ ys : List Str, x = .str a ∧ xs = [.ref p] ∧ (SqL X.K H p (ys.map V.str) ∨ SqT X.K H p (ys.map V.str)) ∧ (ys.map (·.length)).sum + ys.length * a.length ≤ 16777216 ∧ Q (.str (Txt.join a ys)) H) to te)) : PE X e (tM1 (rJoin K) to te) := by
  subst hK
  exact h
end
end Kn
/-! ### texts: split, count, startswith, replace; loops over signs -/
namespace Kn
open PySem PySem.Spec PyProof.Rows L2 Evl SX
def rSplit : V → List V → Hp → VK → Prop := fun x xs H Q => ∃ a b, x = .str a ∧ xs = [.str b] ∧ (b.length == 0) = false ∧ a.length + 2 ≤ sizeLine ∧ rNewStrs (Txt.split a b) H Q
theorem mt_split {X : Cx} : MtR X "str.split" rSplit := L2.mt_split
def rCount : V → List V → Hp → VK → Prop := fun x xs H Q => ∃ a b, x = .str a ∧ xs = [.str b] ∧ Q (.int (Txt.count a b)) H
theorem mt_count {X : Cx} : MtR X "str.count" rCount := L2.mt_count
def rStarts : V → List V → Hp → VK → Prop := fun x xs H Q => ∃ a b, x = .str a ∧ xs = [.str b] ∧ Q (.bl (Txt.startswith a b)) H
theorem mt_startswith {X : Cx} : MtR X "str.startswith" rStarts := L2.mt_startswith
def rEnds : V → List V → Hp → VK → Prop := fun x xs H Q => ∃ a b, x = .str a ∧ xs = [.str b] ∧ Q (.bl (Txt.endswith a b)) H
theorem mt_endswith {X : Cx} : MtR X "str.endswith" rEnds := L2.mt_endswith
/-- l cut at each c -/
def cut1 (c : Nat) (l : List Nat) : List (List Nat) := TL.spl [c] 0 [] l
theorem starts_one {l : List Nat} {c : Nat} : Txt.startswith (S l) (S [c]) = decide (l[0]? = some c) := by
  have h : StrLaws.At (S l) (S [c]) (S l).length 0 ↔ l[0]? = some c := at_one
  unfold Txt.startswith
  rw [Bool.eq_iff_iff, Bool.and_eq_true, decide_eq_true_eq, decide_eq_true_eq]
  exact h
theorem count_one {l : List Nat} {c : Nat} : Txt.count (S l) (S [c]) = cnt c l := count_is (S l) c
theorem spl_map {c : Nat} {f : Nat → Nat} (hc : ∀ d, f d = c ↔ d = c) : ∀ (l acc : List Nat), TL.spl [c] 0 (acc.map f) (l.map f) = (TL.spl [c] 0 acc l).map (List.map f)
  | [], acc => rfl
  | d :: r, acc => by
    by_cases e : d = c
    · have h1 : TL.pre [c] (d :: r) = true := by
        subst e
        exact TL.pre_self [d] r
      have h2 : TL.pre [c] (f d :: r.map f) = true := by
        have e2 := (hc d).mpr e
        rw [e2]
        exact TL.pre_self [c] (r.map f)
      rw [List.map_cons, TL.spl_hit h1, TL.spl_hit h2, List.map_cons]
      exact congrArg (fun z => acc.map f :: z) (spl_map hc r [])
    · have h1 : TL.pre [c] (d :: r) = false := TL.pre_of_head [] r e
      have h2 : TL.pre [c] (f d :: r.map f) = false := TL.pre_of_head [] _ fun z => e ((hc d).mp z)
      rw [List.map_cons, TL.spl_miss h1, TL.spl_miss h2, ← spl_map hc r (acc ++ [d]), List.map_append]
      rfl
theorem cut1_map {c : Nat} {f : Nat → Nat} (hc : ∀ d, f d = c ↔ d = c) (l : List Nat) : cut1 c (l.map f) = (cut1 c l).map (List.map f) := spl_map hc l []
/-- each sign but c is in a part -/
theorem spl_mem {c d : Nat} (hd : d ≠ c) : ∀ (l acc : List Nat), d ∈ acc ∨ d ∈ l → ∃ p ∈ TL.spl [c] 0 acc l, d ∈ p
  | [], acc, h => by
    rcases h with h | h
    · exact ⟨acc, List.mem_cons_self, h⟩
    · exact nomatch h
  | e :: r, acc, h => by
    by_cases ec : e = c
    · have h1 : TL.pre [c] (e :: r) = true := by
        subst ec
        exact TL.pre_self [e] r
      rw [TL.spl_hit h1]
      rcases h with h | h
      · exact ⟨acc, List.mem_cons_self, h⟩
      · rcases List.mem_cons.mp h with z | z
        · exact absurd (z.trans ec) hd
        · obtain ⟨p, hp, hm⟩ := spl_mem hd r [] (.inr z)
          exact ⟨p, List.mem_cons_of_mem _ hp, hm⟩
    · rw [TL.spl_miss (TL.pre_of_head [] r ec)]
      refine spl_mem hd r (acc ++ [e]) ?_
      rcases h with h | h
      · exact .inl (List.mem_append_left _ h)
      · rcases List.mem_cons.mp h with z | z
        · exact .inl (List.mem_append_right _ (by rw [z]; exact List.mem_cons_self))
        · exact .inr z
theorem cut1_mem {c d : Nat} (hd : d ≠ c) {l : List Nat} (h : d ∈ l) : ∃ p ∈ cut1 c l, d ∈ p := spl_mem hd l [] (.inr h)
theorem spl_bound (c : Nat) : ∀ (l acc : List Nat), (TL.spl [c] 0 acc l).length ≤ l.length + 1 ∧ ∀ p ∈ TL.spl [c] 0 acc l, p.length ≤ acc.length + l.length
  | [], acc => ⟨Nat.le_refl _, fun p hp => by rw [List.mem_singleton.mp hp]; exact Nat.le_add_right _ _⟩
  | e :: r, acc => by
    by_cases ec : e = c
    · have h1 : TL.pre [c] (e :: r) = true := by
        subst ec
        exact TL.pre_self [e] r
      have ih := spl_bound c r []
      rw [TL.spl_hit h1]
      refine ⟨Nat.succ_le_succ ih.1, fun p hp => ?_⟩
      rcases List.mem_cons.mp hp with z | z
      · rw [z]
        omega
      · have := ih.2 p z
        rw [List.length_cons]
        simp at this
        omega
    · have ih := spl_bound c r (acc ++ [e])
      rw [TL.spl_miss (TL.pre_of_head [] r ec)]
      refine ⟨by have := ih.1; rw [List.length_cons]; omega, fun p hp => ?_⟩
      have := ih.2 p hp
      rw [List.length_append] at this
      rw [List.length_cons]
      simp at this
      omega
theorem cut1_len (c : Nat) (l : List Nat) : (cut1 c l).length ≤ l.length + 1 := (spl_bound c l []).1
theorem cut1_part {c : Nat} {l p : List Nat} (h : p ∈ cut1 c l) : p.length ≤ l.length := by
  have := (spl_bound c l []).2 p h
  simpa using this
theorem repl_one {c d : Nat} : ∀ l : List Nat, StrLaws.replL [c] [d] l = l.map fun e => if e = c then d else e
  | [] => StrLaws.replL_nil
  | e :: r => by
    by_cases h : e = c
    · subst h
      rw [StrLaws.replL_hit (List.cons_ne_nil _ _) rfl, List.map_cons, if_pos rfl, ← repl_one r]
      rfl
    · rw [StrLaws.replL_miss (y := [c]) (show ¬ (e :: r).take [c].length = [c] from fun z => h (List.cons.inj (show e :: r.take 0 = [c] from z)).1), List.map_cons, if_neg h, repl_one r]
theorem replace_S {l : List Nat} {c d : Nat} : Txt.replace (S l) (S [c]) (S [d]) = S (l.map fun e => if e = c then d else e) := by
  refine TL.ext_tl ?_
  show (Txt.replace (S l) (S [c]) (S [d])).cps.toList = _
  exact (StrLaws.replace_list (show 1 ≤ (S [c]).length from Nat.le_refl 1)).trans (repl_one l)
section
variable {K : PySem.W.Frag} {σ : L2.St} {H H' : Hp} {ta tb te tc : TE} {t u : TT} {x y z v : V} {D : Ends} {tu tz : TS}
theorem el_split {l : List Nat} {c : Nat} (ha : Ev ta σ H (.str (S l))) (hb : Ev tb σ H (.str (S [c]))) (hc : c < 256) (hl : l.length ≤ 90000) : EvL (tM1 rSplit ta tb) σ H ((cut1 c l).map fun p => V.str (S p)) := fun H1 e Q q =>
  ha H1 e _ fun H2 e2 => ⟨⟨_, rfl⟩, hb H2 (e.trans e2) _ fun H3 e3 => ⟨S l, S [c], rfl, rfl, rfl, sz_of (by rw [S_len]; omega), fun p hp => by
    rw [SX.split_S (List.cons_ne_nil _ _) (by simp [hc]), List.map_map]
    exact q p _ (fresh_back (e2.trans e3) hp) ((e2.trans e3).trans (Ex.new hp)) upd_same⟩⟩
theorem ev_count {l : List Nat} {c : Nat} (ha : Ev ta σ H (.str (S l))) (hb : Ev tb σ H (.str (S [c]))) : Ev (tM1 rCount ta tb) σ H (.int (cnt c l)) := fun H1 e Q q =>
  ha H1 e _ fun H2 e2 => ⟨⟨_, rfl⟩, hb H2 (e.trans e2) _ fun H3 e3 => ⟨S l, S [c], rfl, rfl, by
    rw [count_one]
    exact q H3 (e2.trans e3)⟩⟩
theorem ev_starts {l : List Nat} {c : Nat} (ha : Ev ta σ H (.str (S l))) (hb : Ev tb σ H (.str (S [c]))) : Ev (tM1 rStarts ta tb) σ H (.bl (decide (l[0]? = some c))) := fun H1 e Q q =>
  ha H1 e _ fun H2 e2 => ⟨⟨_, rfl⟩, hb H2 (e.trans e2) _ fun H3 e3 => ⟨S l, S [c], rfl, rfl, by
    rw [starts_one]
    exact q H3 (e2.trans e3)⟩⟩
theorem ev_replC {l : List Nat} {s1 s2 : Str} {c d : Nat} (ha : Ev ta σ H (.str (S l))) (h1 : s1 = S [c]) (h2 : s2 = S [d]) (hl : l.length ≤ 100000) : Ev (CwR.tReplC ta s1 s2) σ H (.str (S (l.map fun e => if e = c then d else e))) := fun H1 e Q q => by
  subst h1 h2
  refine ha H1 e _ fun H2 e2 => ⟨S l, rfl, ?_, ?_⟩
  · rw [S_len, S_len]
    show l.length + (l.length + 1) * 1 ≤ 16777216
    omega
  · rw [replace_S]
    exact q H2 e2
theorem s_forS {l : List Nat} {ts : TE} {j : Nat} (h : Ev ts σ H (.str (S l))) (Pv : Nat → L2.St → Hp → Prop) (h0 : ∀ H1, Ex H H1 → Pv 0 σ H1)
    (hs : ∀ (i c : Nat) σ' H', l[i]? = some c → Pv i σ' H' → tu { D with nx := Pv (i + 1), ct := Pv (i + 1), bk := D.nx } (σ'.set j (some (.str (S [c])))) H') (hd : ∀ σ' H', Pv l.length σ' H' → D.nx σ' H') : tFor (iStr ts) (gName j) tu D σ H :=
  h H (Ex.refl H) _ fun H1 e => ⟨S l, rfl, for_it walk_str Pv (h0 H1 e) (fun _ _ _ _ _ => trivial) (fun i x σ' H2 H3 hi p y => by
    obtain ⟨rfl, c, hc, rfl⟩ := y
    have hc' : l[i]? = some c := by simpa [S] using hc
    exact hs i c σ' _ hc' p) (fun σ' H2 p => by
    have hl : (S l).cps.size = l.length := by simp [S]
    rw [hl] at p
    exact hd σ' H2 p)⟩
theorem q_forS {l : List Nat} {ts : TE} {j : Nat} (h : Ev ts σ H (.str (S l))) (Pv : Nat → L2.St → Hp → Prop) (h0 : ∀ H1, Ex H H1 → Pv 0 σ H1)
    (hs : ∀ (i c : Nat) σ' H', l[i]? = some c → Pv i σ' H' → tu { D with nx := Pv (i + 1), ct := Pv (i + 1), bk := tz D } (σ'.set j (some (.str (S [c])))) H') (hd : ∀ σ' H', Pv l.length σ' H' → tz D σ' H') : tSeq (tFor (iStr ts) (gName j) tu) tz D σ H :=
  s_forS (D := { D with nx := tz D }) h Pv h0 hs hd
end
/-! ### an expression behind which a token is out -/
section
variable {X : Cx} {a b e o : Expr} {ta tb te to : TE} {pos apos : Pos}
def PEb (X : Cx) (e : Expr) (t : TE) : Prop := ∀ (pins : List (Addr × Obj)) (s : Shared) (σ : L2.St) (H : Hp) (Q : VK), Inv X pins σ H s → t σ H Q → wpAny (model X.prog X.w) X.A (eval e X.env) (fun v s1 => 1 ≤ s1.toks ∧ EP X pins σ Q v s1) X.xe s
theorem keep_tok {α : Type} {t : Sem α} {Q : α → Shared → Prop} {E : Value → Shared → Prop} {P : Program} {w : World} {A : Around} {s : Shared} (h0 : 1 ≤ s.toks) (h : wpAny (model P w) A t Q E s) : wpAny (model P w) A t (fun a s' => 1 ≤ s'.toks ∧ Q a s') E s :=
  wpAny_mono (PySem.wpAny_toks h) (fun _ _ q => ⟨Nat.le_trans h0 q.1, q.2⟩) fun _ _ z => z.2
theorem peb_str {x : Str} {j : Nat} : PEb X (.Constant (.str x) j pos) (tC (.str x)) := fun _ s _ H _ I h => Calls.Constant_str ⟨by show 1 ≤ s.toks + 1; omega, .str x, H, I.tok _, ⟨_, rfl⟩, h⟩
theorem peb_m1 {id : String} {name : Str} {r : V → List V → Hp → VK → Prop} (slot : Slot "str" name id) (ty : typeOf (.builtin id) = pure (.type "method_descriptor")) (rule : MtR X id r) (ho : PE X o to) (he : PEb X e te)
    (hs : starEach [e] X.env = [(false, eval e X.env)] := by rfl) (hbase : attributeBase o name X.env (eval o X.env) = eval o X.env := by rfl) (hline : (apos.endLine == pos.line) = true := by rfl) :
    PEb X (.Call (.Attribute o name apos) [e] [] pos) (tM1 r to te) := by
  intro pins s σ H Q I h
  refine PySem.Call_method1 hbase hs hline (thn (ho.run pins s σ H _ I h) fun v s1 ⟨x, H1, I1, r1, q1⟩ => ?_)
  obtain ⟨⟨a, rfl⟩, q1⟩ := q1
  obtain ⟨t, rfl⟩ := _root_.id r1
  refine ⟨"str", _, F.plainAttrs_str, slot, ty, typeIs_str _ _ _, (fun _ e => nomatch e), Calls.callWith_builtin rfl (Calls.evalArgs_plain (Calls.spliced_cons ?_))⟩
  exact thn (he pins s1 σ H1 _ I1 q1) fun u s2 ⟨h2, y, H2, I2, r2, q2⟩ => Calls.spliced_nil (keep_tok h2 (rule pins s2 σ H2 _ [y] _ [u] Q I2 r1 (.cons r2 .nil) q2))
theorem peb_cmpR {op : CmpOp} {r : R2} (ho : OpR X (compareOp op) r) (ha : PEb X a ta) (hb : PE X b tb) (hm : behindInMarks op b = false) : PEb X (.Compare a [op] [b] pos) (tOp r ta tb) := by
  intro pins s σ H Q I h
  refine wpAny_Compare1 (thn (ha pins s σ H _ I h) fun v s1 ⟨h1, x, H1, I1, r1, q1⟩ => ?_) hm
  refine thn (keep_tok h1 (hb.run pins s1 σ H1 _ I1 q1)) fun u s2 ⟨h2, y, H2, I2, r2, q2⟩ => ?_
  exact keep_tok h2 (ho pins s2 σ H2 x y v u Q I2 r1 r2 q2)
theorem pe_andB (ha : PEb X a ta) (hb : L2.PET X b tb) : PE X (.BoolOp .And [a, b] pos) (tAndV ta tb) := by
  refine ⟨fun pins s σ H Q I h => ?_⟩
  refine BoolOp_and (thn (ha pins s σ H _ I h) fun v s1 ⟨h1, x, H1, I1, r1, q1⟩ => ?_)
  obtain ⟨c, rfl, q1⟩ := q1
  cases r1
  refine wpAny_truthy_bool ?_
  cases c with
  | true => exact BoolOp_one (hb pins s1 σ H1 Q h1 I1 q1)
  | false => exact ⟨.bl false, H1, I1, rfl, q1⟩
theorem pet_cl {k j : Nat} {x : Str} {sp : Sp} {p : Pos} {es : List Expr} {t : TA} (c : Cl X.prog X.w X.K X.mg X.base k x sp) (hr : Room j X.A) (hk : k ≤ j) (hg : Gl X x) (ha : L2.PAT X (e :: es) t)
    (hdb : (x == ("__debug__" : Str)) = false := by decide) (he : starEach (e :: es) X.env = (false, eval e X.env) :: starEach es X.env := by rfl) (hpl : (backTo pos (starEach es X.env)).any (·.1) = false := by rfl) :
    L2.PET X (.Call (.Name x p) (e :: es) [] pos) (tCall sp [] E0 t) := by
  intro pins s σ H Q h0 I h
  obtain ⟨f, fd, ps, F, hm, kp, b⟩ := c.ex
  refine wpAny_Call_Name_kw (ld_glob I hg hm ?_ hdb)
  refine PySem.W.callWith_K (h₀ := X.base) I.ok.mod.kin kp (thn (ha pos pins s σ H _ h0 I h) fun us s1 ⟨vs, H1, I1, r, q⟩ => ⟨I1.kIn, ?_⟩) he hpl
  exact run_fn F (hr.mono hk) b .nil pass0 I1 r q
end
end Kn
/-! ### methods, classes, dicts with text keys -/
namespace Kn
open PySem PySem.Spec PyProof.Rows L2 Evl SX
structure Mt (P : Program) (w : World) (K : PySem.W.Frag) (mg : Str → Option Value) (base : Heap) (k : Nat) (C : Addr) (m : Str) (sp : Sp) : Prop where
  ex : ∃ (f : Addr) (fd : FuncData) (ps : List Str), Cls K C ∧ Meth K C m f ∧ FnOk P w K mg base CX0 k f fd ps sp ∧ Binds K fd ps []
structure Mkr (P : Program) (w : World) (K : PySem.W.Frag) (mg : Str → Option Value) (base : Heap) (k : Nat) (x : Str) (C : Addr) (sp : Sp) : Prop where
  ex : ∃ (f : Addr) (fd : FuncData) (ps : List Str), Mk K C f ∧ FnOk P w K mg base CX0 k f fd ps sp ∧ mg x = some (.ref C) ∧ Binds K fd ps []
section
variable {X : Cx} {k j : Nat} {C : Addr} {x m : Str} {sp : Sp} {p pos apos : Pos} {e o : Expr} {es : List Expr} {ta : TE} {t : TA}
theorem pe_mt {pl : Sem Bool} (c : Mt X.prog X.w X.K X.mg X.base k C m sp) (hr : Room j X.A) (hk : k ≤ j) (he : PE X o ta) (ha : PA X (e :: es) t)
    (hst : starEach (e :: es) X.env = (false, eval e X.env) :: starEach es X.env := by rfl) (hpl : (backTo pos (starEach es X.env)).any (·.1) = false := by rfl)
    (ht : eval (.Call (.Attribute o m apos) (e :: es) [] pos) X.env = (do
      let ov ← eval o X.env
      standAt apos.atName
      let (f, first) ← holding [ov] (getMethod ov m pl)
      callWith pos f first (backTo pos (starEach (e :: es) X.env)) (backToKw pos (keywordEach [] X.env))) := by rfl) :
    PE X (.Call (.Attribute o m apos) (e :: es) [] pos) (tMeth C m sp [] E0 ta t) := by
  obtain ⟨f, fd, ps, hc, hm, F, b⟩ := c.ex
  exact pe_meth (pl := pl) he hc hm F (hr.mono hk) b .nil pass0 ha hst hpl ht
theorem pe_mt0 {pl : Sem Bool} (c : Mt X.prog X.w X.K X.mg X.base k C m sp) (hr : Room j X.A) (hk : k ≤ j) (he : PE X o ta)
    (ht : eval (.Call (.Attribute o m apos) [] [] pos) X.env = (do
      let ov ← eval o X.env
      standAt apos.atName
      let (f, first) ← holding [ov] (getMethod ov m pl)
      callWith pos f first (backTo pos (starEach [] X.env)) (backToKw pos (keywordEach [] X.env))) := by rfl) :
    PE X (.Call (.Attribute o m apos) [] [] pos) (tMeth C m sp [] E0 ta tNil) := by
  obtain ⟨f, fd, ps, hc, hm, F, b⟩ := c.ex
  exact pe_meth0 (pl := pl) he hc hm F (hr.mono hk) b .nil pass0 ht
theorem pe_mkr0 (c : Mkr X.prog X.w X.K X.mg X.base k x C sp) (hr : Room j X.A) (hk : k + 1 ≤ j) (hg : Gl X x) (hdb : (x == ("__debug__" : Str)) = false := by decide) :
    PE X (.Call (.Name x p) [] [] pos) (tMake C sp [] E0 tNil) := by
  obtain ⟨f, fd, ps, M, F, hm, b⟩ := c.ex
  exact pe_make0 M F (hr.mono hk) hg hm b .nil pass0 hdb
def rStrInt : List V → Hp → VK → Prop := fun xs H Q => ∃ i, xs = [.int i] ∧ i.natAbs.log2 < 1920 ∧ Q (.str (toString i)) H
theorem cr_strInt : CallR X (.type "str") rStrInt := call_str_int
def rSortD (K : PySem.W.Frag) : List V → Hp → VK → Prop := fun xs H Q => ∃ (a : Addr) (kvs : List (Key × V)) (ks : List Str), xs = [.ref a] ∧ Rd H a (.dK kvs) ∧ kvs.map (·.1) = ks.map Sum.inr ∧ ks.length < 64 ∧ ∀ ys p, ys.Perm ks → sortedS ys = true → H p = none → Q (.ref p) (upd H p (.lst (ys.map V.str)))
theorem cr_sortD (h : X.calm = true) : CallR X (.builtin "sorted") (rSortD X.K) := call_sortedD h
def rDictP (K : PySem.W.Frag) : List V → Hp → VK → Prop := fun xs H Q => ∃ (a : Addr) (ps : List Addr) (kvs : List (Key × V)), xs = [.ref a] ∧ SqL K H a (ps.map V.ref) ∧ Paired (fun p kv => SqT K H p [kV kv.1, kv.2]) ps kvs ∧ ∀ p, H p = none → Q (.ref p) (upd H p (.dK (mergeK [] kvs)))
theorem cr_dictP (h : X.calm = true) : CallR X (.type "dict") (rDictP X.K) := call_dictP h
end
section
variable {K : PySem.W.Frag} {σ : L2.St} {H H' : Hp} {ta tb td ty te tc tv : TE} {t u : TT} {x y z v : V} {D : Ends} {tu tw tz : TS} {C p d dx : Addr} {fs : List (Str × V)} {kvs : List (Key × V)} {k : List Nat}
theorem ev_fld {f : Str} (ha : Ev ta σ H (.ref p)) (ho : H p = some (.ins C dx fs)) (hc : Cls K C) (hn : NoAttr K C f) (hl : fs.lookup f = some v) : Ev (tFld K ta f) σ H v := fun H1 e Q q =>
  ha H1 e _ fun H2 e2 => ⟨p, C, dx, fs, v, rfl, (e.trans e2) _ _ ho, hc, hn, hl, q H2 e2⟩
theorem ev_meth {m : Str} {sp : Sp} {E : XK} {t : TA} {vs : List V} (ha : Ev ta σ H (.ref p)) (ho : H p = some (.ins C dx fs)) (hm : fs.lookup m = none) (h : EvA t σ H vs) (hs : SpV sp (.ref p :: vs) H z) : Ev (tMeth C m sp [] E ta t) σ H z := fun H1 e Q q =>
  ha H1 e _ fun H2 e2 => ⟨p, dx, fs, rfl, (e.trans e2) _ _ ho, hm, h H2 (e.trans e2) _ fun H3 e3 => by
    rw [List.append_nil]
    exact hs H3 ((e.trans e2).trans e3) Q (fun H4 e4 => q H4 ((e2.trans e3).trans e4)) E⟩
theorem ev_dget (h1 : Ev td σ H (.ref d)) (h2 : Ev ty σ H (.str (S k))) (hd : H d = some (.dK kvs)) (hv : valV kvs (Sum.inr (S k)) = some v) : Ev (tDGet td ty) σ H v := fun H1 e Q q =>
  h1 H1 e _ fun H2 e2 => h2 H2 (e.trans e2) _ fun H3 e3 => ⟨d, v, rfl, by
    have g := DGet.k (k := (Sum.inr (S k) : Key)) (((e.trans e2).trans e3) _ _ hd)
    rw [hv] at g
    exact g, q H3 (e2.trans e3)⟩
theorem ev_dget1 (h1 : Ev td σ H (.ref d)) (h2 : Ev ty σ H (.str (S k))) (hd : H d = some (.dK kvs)) : Ev (tDGet1 td ty) σ H ((valV kvs (Sum.inr (S k))).getD .non) := fun H1 e Q q =>
  h1 H1 e _ fun H2 e2 => ⟨d, rfl, .inl ⟨kvs, .inl ((e.trans e2) _ _ hd)⟩, h2 H2 (e.trans e2) _ fun H3 e3 => ⟨_, DGet.k (k := (Sum.inr (S k) : Key)) (((e.trans e2).trans e3) _ _ hd), q H3 (e2.trans e3)⟩⟩
theorem et_din (h2 : Ev ty σ H (.str (S k))) (h1 : Ev td σ H (.ref d)) (hd : H d = some (.dK kvs)) : EvT (tB (tDIn ty td)) σ H (valV kvs (Sum.inr (S k))).isSome := fun H1 e Q q =>
  h2 H1 e _ fun H2 e2 => h1 H2 (e.trans e2) _ fun H3 e3 => ⟨d, _, rfl, DGet.k (k := (Sum.inr (S k) : Key)) (((e.trans e2).trans e3) _ _ hd), _, rfl, q H3 (e2.trans e3)⟩
/-- d[k] = v -/
theorem s_dput (hv : Ev tv σ H v) (h1 : ∀ H1, Ex H H1 → Ev td σ H1 (.ref d)) (h2 : ∀ H1, Ex H H1 → Ev ty σ H1 (.str (S k))) (hd : H d = some (.dK kvs)) (hl : kvs.length < 100000) (q : ∀ H1, Ex H H1 → D.nx σ (upd H1 d (.dK (putK kvs (Sum.inr (S k)) v)))) : sDPut td ty tv D σ H :=
  hv H (Ex.refl H) _ fun H1 e1 => h1 H1 e1 H1 (Ex.refl H1) _ fun H2 e2 => h2 H2 (e1.trans e2) H2 (Ex.refl H2) _ fun H3 e3 => ⟨d, _, rfl, DPut.k (k := (Sum.inr (S k) : Key)) (((e1.trans e2).trans e3) _ _ hd) (sz_lt hl), q H3 ((e1.trans e2).trans e3)⟩
/-- d[k] = (a, ..), a new tuple -/
theorem s_dputU {xs : List V} (hv : EvU tv σ H xs) (h1 : ∀ H1, Ex H H1 → Ev td σ H1 (.ref d)) (h2 : ∀ H1, Ex H H1 → Ev ty σ H1 (.str (S k))) (hd : H d = some (.dK kvs)) (hl : kvs.length < 100000) (q : ∀ r H1, H r = none → Ex H H1 → H1 r = some (.tup xs) → D.nx σ (upd H1 d (.dK (putK kvs (Sum.inr (S k)) (.ref r))))) : sDPut td ty tv D σ H :=
  hv H (Ex.refl H) _ fun r H1 nr e1 hr => h1 H1 e1 H1 (Ex.refl H1) _ fun H2 e2 => h2 H2 (e1.trans e2) H2 (Ex.refl H2) _ fun H3 e3 => ⟨d, _, rfl, DPut.k (k := (Sum.inr (S k) : Key)) (((e1.trans e2).trans e3) _ _ hd) (sz_lt hl), q r H3 nr ((e1.trans e2).trans e3) (e3 _ _ (e2 _ _ hr))⟩
theorem et_isN (ha : Ev ta σ H x) : EvT (tTest (tOp rIsN ta (tC .non))) σ H (decide (x = .non)) := et_test (ev_op ha ev_c fun H1 _ Q q => ⟨rfl, q H1 (Ex.refl H1)⟩)
theorem et_notN (ha : Ev ta σ H x) : EvT (tTest (tOp rNotN ta (tC .non))) σ H (!decide (x = .non)) := et_test (ev_op ha ev_c fun H1 _ Q q => ⟨rfl, q H1 (Ex.refl H1)⟩)
theorem rv_ix0 {q : Addr} {xs : List V} {i : Nat} (h : SqT K H q xs) (hi : xs[i]? = some v) : RV (rIxT K) (.ref q) (.int (i : Int)) H v := rv_ixT h (atI_nat hi)
theorem ev_strInt {n : Nat} (ha : Ev ta σ H (.int (n : Int))) (hn : n < 1000) : Ev (tCB rStrInt (tCons ta tNil)) σ H (.str (S (TL.numL n))) := fun H1 e Q q =>
  ha H1 e _ fun H2 e2 => ⟨(n : Int), rfl, by
    rw [Int.natAbs_natCast]
    have : n.log2 < 10 := by
      by_cases h0 : n = 0
      · subst h0
        decide
      · exact (Nat.log2_lt h0).mpr (by omega)
    omega, by
    have z := num_S n
    rw [← z] at q
    exact q H2 e2⟩
end
end Kn
/-! ### lists of pairs with text keys: what a dict holds -/
namespace Kn
open PySem PySem.Spec PyProof.Rows L2 Evl SX
section
variable {α : Type}
def look (es : List (List Nat × α)) (k : List Nat) : Option α := (es.find? fun x => decide (x.1 = k)).map (·.2)
def put (es : List (List Nat × α)) (k : List Nat) (e : α) : List (List Nat × α) := if (es.any fun x => decide (x.1 = k)) = true then es.map (fun x => if x.1 = k then (x.1, e) else x) else es ++ [(k, e)]
theorem look_cons (x : List Nat × α) (r : List (List Nat × α)) (k : List Nat) : look (x :: r) k = if x.1 = k then some x.2 else look r k := by
  unfold look
  rw [List.find?_cons]
  by_cases h : x.1 = k
  · rw [decide_eq_true h, if_pos h]
    rfl
  · rw [decide_eq_false h, if_neg h]
theorem look_any (k : List Nat) : ∀ es : List (List Nat × α), (es.any fun x => decide (x.1 = k)) = (look es k).isSome
  | [] => rfl
  | x :: r => by
    rw [List.any_cons, look_cons, look_any k r]
    by_cases h : x.1 = k
    · rw [decide_eq_true h, if_pos h]
      rfl
    · rw [decide_eq_false h, if_neg h]
      rfl
theorem look_map (k j : List Nat) (e : α) : ∀ es : List (List Nat × α), look (es.map fun x => if x.1 = k then (x.1, e) else x) j = (look es j).map fun y => if j = k then e else y
  | [] => rfl
  | x :: r => by
    rw [List.map_cons, look_cons, look_cons, look_map k j e r]
    by_cases h : x.1 = k
    · rw [if_pos h]
      by_cases h2 : x.1 = j
      · rw [if_pos h2, if_pos h2, Option.map_some, if_pos (h2.symm.trans h)]
      · rw [if_neg h2, if_neg h2]
    · rw [if_neg h]
      by_cases h2 : x.1 = j
      · rw [if_pos h2, if_pos h2, Option.map_some, if_neg (fun z => h (h2.trans z))]
      · rw [if_neg h2, if_neg h2]
theorem look_snoc (k j : List Nat) (e : α) : ∀ es : List (List Nat × α), look es k = none → look (es ++ [(k, e)]) j = if j = k then some e else look es j
  | [], _ => by
    show look [(k, e)] j = _
    rw [look_cons]
    by_cases h : k = j
    · rw [if_pos h, if_pos h.symm]
    · rw [if_neg h, if_neg (fun z => h z.symm)]
  | x :: r, hn => by
    rw [look_cons] at hn
    by_cases h : x.1 = k
    · rw [if_pos h] at hn
      cases hn
    · rw [if_neg h] at hn
      rw [List.cons_append, look_cons, look_cons, look_snoc k j e r hn]
      by_cases h2 : x.1 = j
      · rw [if_pos h2, if_pos h2, if_neg (fun z => h (h2.trans z))]
      · rw [if_neg h2, if_neg h2]
theorem look_put (es : List (List Nat × α)) (k j : List Nat) (e : α) : look (put es k e) j = if j = k then some e else look es j := by
  unfold put
  rw [look_any]
  cases h : look es k with
  | none => exact look_snoc k j e es h
  | some y =>
    show look (es.map _) j = _
    rw [look_map]
    by_cases hj : j = k
    · subst hj
      rw [h, if_pos rfl, Option.map_some, if_pos rfl]
    · rw [if_neg hj]
      cases look es j with
      | none => rfl
      | some z => rw [Option.map_some, if_neg hj]
theorem put_len (es : List (List Nat × α)) (k : List Nat) (e : α) : (put es k e).length ≤ es.length + 1 := by
  unfold put
  split
  · rw [List.length_map]
    omega
  · rw [List.length_append]
    exact Nat.le_refl _
theorem look_mem {es : List (List Nat × α)} {k : List Nat} {e : α} (h : look es k = some e) : (k, e) ∈ es := by
  unfold look at h
  cases hf : es.find? fun x => decide (x.1 = k) with
  | none => rw [hf] at h; cases h
  | some x =>
    rw [hf] at h
    have h1 : x.1 = k := of_decide_eq_true (List.find?_some (p := fun x : List Nat × α => decide (x.1 = k)) hf)
    have h2 : x.2 = e := Option.some.inj h
    rw [← h1, ← h2]
    exact List.mem_of_find?_eq_some hf
theorem mem_look {es : List (List Nat × α)} {x : List Nat × α} (h : x ∈ es) : (look es x.1).isSome = true := by
  rw [← look_any, List.any_eq_true]
  exact ⟨x, h, decide_eq_true rfl⟩
theorem look_put_mem {es : List (List Nat × α)} {k : List Nat} {e : α} {x : List Nat × α} (h : x ∈ put es k e) : x ∈ es ∨ x.2 = e := by
  unfold put at h
  split at h
  · obtain ⟨y, hy, e2⟩ := List.mem_map.mp h
    by_cases h3 : y.1 = k
    · rw [if_pos h3] at e2
      exact .inr (by rw [← e2])
    · rw [if_neg h3] at e2
      exact .inl (by rw [← e2]; exact hy)
  · rcases List.mem_append.mp h with z | z
    · exact .inl z
    · exact .inr (by rw [List.mem_singleton.mp z])
end
/-- how pairs lie as a dict's: R tells which value stands for which thing -/
def Lies {α : Type} (R : α → V → Prop) (es : List (List Nat × α)) (kvs : List (Key × V)) : Prop := Paired (fun x (kv : Key × V) => kv.1 = Sum.inr (S x.1) ∧ R x.2 kv.2) es kvs
section
variable {α : Type} {R R' : α → V → Prop}
theorem key_eq {a b : List Nat} : ((Sum.inr (S a) : Key) = Sum.inr (S b)) ↔ a = b := ⟨fun h => S_inj (Sum.inr.inj h), fun h => by rw [h]⟩
theorem Lies.len {es : List (List Nat × α)} {kvs : List (Key × V)} (h : Lies R es kvs) : es.length = kvs.length := Paired.length h
theorem Lies.mono {es : List (List Nat × α)} {kvs : List (Key × V)} (h : Lies R es kvs) (f : ∀ a v, R a v → R' a v) : Lies R' es kvs := Paired.mapP h fun _ _ z => ⟨z.1, f _ _ z.2⟩
theorem Lies.look : ∀ {es : List (List Nat × α)} {kvs : List (Key × V)}, Lies R es kvs → ∀ k, (Kn.look es k = none ∧ valV kvs (Sum.inr (S k)) = none) ∨ ∃ e v, Kn.look es k = some e ∧ valV kvs (Sum.inr (S k)) = some v ∧ R e v
  | [], _, .nil, _ => .inl ⟨rfl, rfl⟩
  | x :: r, kv :: kvs, .cons h t, k => by
    rw [look_cons]
    by_cases hk : x.1 = k
    · rw [if_pos hk]
      refine .inr ⟨x.2, kv.2, rfl, valV_pos (h.1.trans (key_eq.mpr hk)), h.2⟩
    · rw [if_neg hk, valV_neg (fun z => hk (key_eq.mp (h.1.symm.trans z)))]
      exact Lies.look t k
theorem Lies.any {es : List (List Nat × α)} {kvs : List (Key × V)} (h : Lies R es kvs) (k : List Nat) : (kvs.any fun kv => decide (kv.1 = Sum.inr (S k))) = es.any fun x => decide (x.1 = k) := by
  rw [valV_any, look_any]
  rcases h.look k with ⟨a, b⟩ | ⟨e, v, a, b, _⟩
  · rw [a, b]
    rfl
  · rw [a, b]
    rfl
theorem Lies.mapped {k : List Nat} {e : α} {v : V} (hv : R e v) : ∀ {es : List (List Nat × α)} {kvs : List (Key × V)}, Lies R es kvs → Lies R (es.map fun x => if x.1 = k then (x.1, e) else x) (kvs.map fun kv => if kv.1 = (Sum.inr (S k) : Key) then (kv.1, v) else kv)
  | [], _, .nil => .nil
  | x :: r, kv :: kvs, .cons h t => by
    refine .cons ?_ (Lies.mapped hv t)
    by_cases hk : x.1 = k
    · dsimp only
      rw [if_pos hk, if_pos (h.1.trans (key_eq.mpr hk))]
      exact ⟨h.1, hv⟩
    · dsimp only
      rw [if_neg hk, if_neg (fun z => hk (key_eq.mp (h.1.symm.trans z)))]
      exact h
theorem Lies.snoc {k : List Nat} {e : α} {v : V} (hv : R e v) : ∀ {es : List (List Nat × α)} {kvs : List (Key × V)}, Lies R es kvs → Lies R (es ++ [(k, e)]) (kvs ++ [(Sum.inr (S k), v)])
  | [], _, .nil => .cons ⟨rfl, hv⟩ .nil
  | _ :: _, _ :: _, .cons h t => .cons h (Lies.snoc hv t)
theorem Lies.put {es : List (List Nat × α)} {kvs : List (Key × V)} {k : List Nat} {e : α} {v : V} (h : Lies R es kvs) (hv : R e v) : Lies R (Kn.put es k e) (putK kvs (Sum.inr (S k)) v) := by
  unfold Kn.put putK
  rw [h.any k]
  split
  · exact h.mapped hv
  · exact h.snoc hv
theorem Lies.keys : ∀ {es : List (List Nat × α)} {kvs : List (Key × V)}, Lies R es kvs → kvs.map (·.1) = (es.map fun x => S x.1).map Sum.inr
  | [], _, .nil => rfl
  | _ :: _, _ :: _, .cons h t => by
    rw [List.map_cons, List.map_cons, List.map_cons, h.1, Lies.keys t]
theorem Lies.get : ∀ {es : List (List Nat × α)} {kvs : List (Key × V)}, Lies R es kvs → ∀ (i : Nat) kv, kvs[i]? = some kv → ∃ x, es[i]? = some x ∧ kv.1 = Sum.inr (S x.1) ∧ R x.2 kv.2
  | [], _, .nil, _, _, h => by simp at h
  | x :: _, kv :: _, .cons h t, 0, kv', e => by
    cases Option.some.inj e
    exact ⟨x, rfl, h.1, h.2⟩
  | _ :: _, _ :: _, .cons h t, i + 1, kv', e => by
    obtain ⟨y, h1, h2⟩ := Lies.get t i kv' (by simpa using e)
    exact ⟨y, by simpa using h1, h2⟩
end
section
variable {K : PySem.W.Frag} {σ : L2.St} {H H' : Hp} {ta tb td ty te tc tv : TE} {t u : TT} {x y z v : V} {D : Ends} {tu tw tz : TS} {C p d dx : Addr} {fs : List (Str × V)} {kvs : List (Key × V)} {k : List Nat}
/-- y = [x for x in d.values() if t] -/
theorem s_lcVals {i j : Nat} {vs : List Nat} (f : Nat → Bool) (h1 : ∀ H1 : Hp, (∀ a o, a ≠ d → H a = some o → H1 a = some o) → Ev td σ H1 (.ref d)) (hd : H d = some (.dK kvs)) (hz : kvs.length ≤ 40000) (hw : ∀ x, wipe ((wipe σ vs).set j (some x)) vs = wipe σ vs)
    (ht : ∀ (i : Nat) (kv : Key × V) (H1 : Hp), (∀ a o, a ≠ d → H a = some o → H1 a = some o) → kvs[i]? = some kv → EvT t ((wipe σ vs).set j (some kv.2)) H1 (f i)) (he : ∀ (x : V) H1, Ev te ((wipe σ vs).set j (some x)) H1 x)
    (k : ∀ p H1, H p = none → Ex H H1 → H1 p = some (.lst (given kvs.length f fun i => (kvs[i]?.map (·.2)).getD .non)) → D.nx (σ.set i (some (.ref p))) H1) : tLock (tAsg (tLc (iVals td) (gName j) t te vs) (gName i)) D σ H := by
  refine ⟨d, .dK kvs, hd, trivial, fun od => ?_⟩
  have base : ∀ H1, Ex (upd H d (.frz od (.dK kvs))) H1 → ∀ a o, a ≠ d → H a = some o → H1 a = some o := fun H1 e a o ha h => e a o (by rw [upd_ne ha]; exact h)
  refine h1 _ (base _ (Ex.refl _)) _ (Ex.refl _) _ fun H1 e1 => ⟨d, od, kvs, rfl, e1 _ _ upd_same, fun Dl hD => ?_⟩
  refine lc_it walk_values (Cw H1 f (fun i => (kvs[i]?.map (·.2)).getD .non) Dl) ⟨hD, Ex.new hD, upd_same⟩ (fun i H2 _ q => q.2.1 _ _ (e1 _ _ upd_same)) (fun i x H2 H3 hi q y => ?_) (fun H2 q => ?_)
  · obtain ⟨rfl, ky, hy⟩ := y
    refine ⟨hw x, cw_turn q (by omega) (ht i (ky, x) H1 (base H1 e1) hy) (fun _ => ?_)⟩
    rw [hy]
    exact he x H1
  · have dn : H1 d = some (.frz od (.dK kvs)) := e1 _ _ upd_same
    have hd2 : H2 d = some (.frz od (.dK kvs)) := q.2.1 _ _ dn
    refine ⟨hd2, k Dl _ ?_ (fun a o h => ?_) ?_⟩
    · cases h : H Dl with
      | none => rfl
      | some o =>
        have ne : Dl ≠ d := fun z => by rw [z] at hD; rw [hD] at dn; cases dn
        have := e1 _ _ (by rw [upd_ne ne]; exact h)
        rw [hD] at this
        cases this
    · by_cases ha : a = d
      · rw [ha] at h ⊢
        rw [upd_same, ← hd, h]
      · rw [upd_ne ha]
        exact q.2.1 _ _ (base H1 e1 a o ha h)
    · have ne : Dl ≠ d := fun z => by rw [z] at hD; rw [hD] at dn; cases dn
      rw [upd_ne ne]
      exact q.2.2
/-- [(a, ..) for x in d if t]: new tuples -/
theorem ev_lcKeysT {j : Nat} {vs : List Nat} (f : Nat → Bool) (xs : Nat → List V) (h1 : ∀ H1, Ev td σ H1 (.ref d)) (hd : H d = some (.dK kvs)) (hz : kvs.length ≤ 40000) (hw : ∀ x, wipe ((wipe σ vs).set j (some x)) vs = wipe σ vs)
    (ht : ∀ (i : Nat) (kv : Key × V) (H1 : Hp) , kvs[i]? = some kv → EvT t ((wipe σ vs).set j (some (kV kv.1))) H1 (f i))
    (he : ∀ (i : Nat) (kv : Key × V) (H1 : Hp) (od : Obj), H1 d = some (.frz od (.dK kvs)) → kvs[i]? = some kv → f i = true → EvU te ((wipe σ vs).set j (some (kV kv.1))) H1 (xs i)) :
    ∀ H0, Ex H H0 → ∀ Q : VK, (∀ p H2 (ps : List Addr), H0 p = none → Ex H0 H2 → H2 p = some (.lst (ps.map V.ref)) → Paired (fun q v => H2 q = some (.tup v)) ps (((List.range kvs.length).filter f).map xs) → Q (.ref p) H2) → tLockE (tLc (iKeys td) (gName j) t te vs) σ H0 Q := by
  intro H0 e0 Q k
  have hd0 := e0 _ _ hd
  refine ⟨d, .dK kvs, hd0, trivial, fun od => ?_⟩
  refine h1 _ _ (Ex.refl _) _ fun H1 e1 => ⟨d, od, rfl, .inl ⟨kvs, e1 _ _ upd_same, fun Dl hD => ?_⟩⟩
  have dn : H1 d = some (.frz od (.dK kvs)) := e1 _ _ upd_same
  have ne : Dl ≠ d := fun z => by rw [z] at hD; rw [hD] at dn; cases dn
  refine lc_it walk_keys (fun i H' => Ex H1 H' ∧ ∃ ps : List Addr, H' Dl = some (.lst (ps.map V.ref)) ∧ ps.length ≤ i ∧ Paired (fun q v => H' q = some (.tup v)) ps (((List.range i).filter f).map xs)) ⟨Ex.new hD, [], upd_same, Nat.le_refl _, .nil⟩ (fun i H2 _ q => q.1 _ _ dn) (fun i x H2 H3 hi q y => ?_) (fun H2 q => ?_)
  · obtain ⟨rfl, ky, vv, hy, rfl⟩ := y
    obtain ⟨e2, ps, hl, hlen, hp⟩ := q
    refine ⟨hw _, ht i (ky, vv) _ hy _ (Ex.refl _) _ fun H3 e3 => ?_⟩
    cases hf : f i with
    | false =>
      show Ex H1 H3 ∧ _
      refine ⟨e2.trans e3, ps, e3 _ _ hl, by omega, ?_⟩
      rw [List.range_succ, List.filter_append, List.filter_cons, hf]
      show Paired _ ps (List.map xs (_ ++ []))
      rw [List.append_nil]
      exact Paired.mapP hp fun _ _ z => e3 _ _ z
    | true =>
      show te _ H3 fun y H4 => ∃ acc, _
      refine he i (ky, vv) H3 od (e3 _ _ (e2 _ _ dn)) hy hf H3 (Ex.refl _) _ fun r H4 nr e4 hr => ?_
      have hl4 : H4 Dl = some (.lst (ps.map V.ref)) := e4 _ _ (e3 _ _ hl)
      refine ⟨ps.map V.ref, hl4, sz_lt (by rw [List.length_map]; omega), Ex.mut ((e2.trans e3).trans e4) hD, ps ++ [r], ?_, ?_, ?_⟩
      · rw [List.map_append]
        exact upd_same
      · rw [List.length_append]
        show ps.length + 1 ≤ i + 1
        omega
      · have up : ∀ q w, H4 q = some (.tup w) → (upd H4 Dl (.lst (ps.map V.ref ++ [.ref r]))) q = some (.tup w) := fun q w hq => by
          rw [upd_ne (ne_of hq hl4 (by intro z; cases z))]
          exact hq
        rw [List.range_succ, List.filter_append, List.filter_cons, hf, List.map_append]
        have app : ∀ {F : Addr → List V → Prop} {as : List Addr} {bs : List (List V)} {a : Addr} {b : List V}, Paired F as bs → F a b → Paired F (as ++ [a]) (bs ++ [b]) := by
          intro F as bs a b hh hab
          induction hh with
          | nil => exact .cons hab .nil
          | cons h1 _ ih => exact .cons h1 ih
        exact app (Paired.mapP hp fun _ _ z => up _ _ (e4 _ _ (e3 _ _ z))) (up _ _ hr)
  · obtain ⟨e2, ps, hl, _, hp⟩ := q
    refine ⟨e2 _ _ dn, k Dl _ ps ?_ (fun a o h => ?_) ?_ (Paired.mapP hp fun q w z => ?_)⟩
    · cases h : H0 Dl with
      | none => rfl
      | some o =>
        have := e1 _ _ (by rw [upd_ne ne]; exact h)
        rw [hD] at this
        cases this
    · by_cases ha : a = d
      · rw [ha] at h ⊢
        rw [upd_same, ← hd0, h]
      · rw [upd_ne ha]
        exact e2 _ _ (e1 _ _ (by rw [upd_ne ha]; exact h))
    · rw [upd_ne ne]
      exact hl
    · have hdz : H2 d = some (.frz od (.dK kvs)) := e2 _ _ dn
      rw [upd_ne (ne_of z hdz (by intro w; cases w))]
      exact z
end
end Kn
namespace Kn
open PySem PySem.Spec PyProof.Rows L2 Evl SX
section
variable {K : PySem.W.Frag} {σ : L2.St} {H H' : Hp} {ta tb td ty te tc tv : TE} {t u : TT} {x y z v : V} {D : Ends} {tu tw tz : TS} {C p d dx : Addr} {fs : List (Str × V)} {kvs : List (Key × V)} {k : List Nat}
theorem q_dnew {i : Nat} (k : ∀ p, H p = none → tz D (σ.set i (some (.ref p))) (upd H p (.dK []))) : tSeq (tAsg tDNewK (gName i)) tz D σ H := k
theorem s_meth {m : Str} {sp : Sp} {E : XK} {tA : TA} {vs : List V} (ha : Ev ta σ H (.ref p)) (ho : H p = some (.ins C dx fs)) (hm : fs.lookup m = none) (h : EvA tA σ H vs) (k : ∀ H1, Ex H H1 → sp (.ref p :: vs) H1 (fun _ H2 => D.nx σ H2) E) : tDrop (tMeth C m sp [] E ta tA) D σ H :=
  ha H (Ex.refl H) _ fun H1 e1 => ⟨p, dx, fs, rfl, e1 _ _ ho, hm, h H1 e1 _ fun H2 e2 => by
    rw [List.append_nil]
    exact k H2 (e1.trans e2)⟩
theorem q_meth {m : Str} {sp : Sp} {E : XK} {tA : TA} {vs : List V} (ha : Ev ta σ H (.ref p)) (ho : H p = some (.ins C dx fs)) (hm : fs.lookup m = none) (h : EvA tA σ H vs) (k : ∀ H1, Ex H H1 → sp (.ref p :: vs) H1 (fun _ H2 => tz D σ H2) E) : tSeq (tDrop (tMeth C m sp [] E ta tA)) tz D σ H :=
  s_meth (D := { D with nx := tz D }) ha ho hm h k
/-- for k in sorted(d) -/
theorem q_forSD {ks : List (List Nat)} {j : Nat} (hv : Ev td σ H (.ref d)) (hd : H d = some (.dK kvs)) (hk : kvs.map (·.1) = (ks.map S).map Sum.inr) (hn : ks.length < 64) (Pv : List (List Nat) → Addr → Nat → L2.St → Hp → Prop)
    (h0 : ∀ ys p H1, ys.Perm ks → H p = none → Ex H H1 → H1 p = some (.lst (ys.map fun l => V.str (S l))) → Pv ys p 0 σ H1)
    (hl : ∀ ys p i σ' H', Pv ys p i σ' H' → SqL K H' p (ys.map fun l => V.str (S l)))
    (hs : ∀ ys p i l σ' H', ys.Perm ks → ys[i]? = some l → Pv ys p i σ' H' → tu { D with nx := Pv ys p (i + 1), ct := Pv ys p (i + 1), bk := tz D } (σ'.set j (some (.str (S l)))) H')
    (hend : ∀ ys p σ' H', ys.Perm ks → Pv ys p ys.length σ' H' → tz D σ' H') : tSeq (tFor (iList K (tCB (rSortD K) (tCons td tNil))) (gName j) tu) tz D σ H := by
  refine hv H (Ex.refl H) _ fun H1 e1 => ⟨d, kvs, ks.map S, rfl, .inl (e1 _ _ hd), hk, by rw [List.length_map]; exact hn, fun ys p hp _ hnew => ?_⟩
  have e : ys = (ys.map TL.tl).map S := by
    rw [List.map_map]
    exact (List.map_id' ys).symm.trans (List.map_congr_left fun x _ => (S_tl x).symm)
  have hperm : (ys.map TL.tl).Perm ks := by
    have h := hp.map TL.tl
    rw [map_S_tl] at h
    exact h
  have e2 : ys.map V.str = (ys.map TL.tl).map fun l => V.str (S l) := by
    rw [List.map_map]
    exact List.map_congr_left fun x _ => congrArg V.str (S_tl x).symm
  refine ⟨p, rfl, ⟨_, sq_of upd_same⟩, ?_⟩
  rw [e2]
  refine for_list (xs := (ys.map TL.tl).map fun l => V.str (S l)) (Pv (ys.map TL.tl) p) (h0 _ p _ hperm (fresh_back e1 hnew) (e1.trans (Ex.new hnew)) upd_same) (fun i σ' H' _ q => hl _ p i σ' H' q) (fun i x σ' H' hx q => ?_) (fun σ' H' q => ?_)
  · rw [List.getElem?_map] at hx
    cases h : (ys.map TL.tl)[i]? with
    | none => rw [h] at hx; cases hx
    | some l =>
      rw [h] at hx
      cases Option.some.inj hx
      exact hs _ p i l σ' H' hperm h q
  · rw [List.length_map] at q
    exact hend _ p σ' H' hperm q
end
/-! ### a dict made of pairs -/
def puts {α : Type} (acc L : List (List Nat × α)) : List (List Nat × α) := L.foldl (fun a x => put a x.1 x.2) acc
theorem look_puts {α : Type} {g : List Nat → Option α} : ∀ (L acc : List (List Nat × α)), (∀ x ∈ L, g x.1 = some x.2) → ∀ k, look (puts acc L) k = if k ∈ L.map (·.1) then g k else look acc k
  | [], acc, _, k => (if_neg (by simp)).symm
  | x :: r, acc, h, k => by
    show look (puts (put acc x.1 x.2) r) k = _
    rw [look_puts r _ (fun y hy => h y (List.mem_cons_of_mem _ hy)) k, look_put]
    by_cases h1 : k ∈ r.map (·.1)
    · rw [if_pos h1, if_pos (by rw [List.map_cons]; exact List.mem_cons_of_mem _ h1)]
    · rw [if_neg h1]
      by_cases h2 : k = x.1
      · rw [if_pos h2, if_pos (by rw [List.map_cons, h2]; exact List.mem_cons_self), h2, h x List.mem_cons_self]
      · rw [if_neg h2, if_neg (by rw [List.map_cons, List.mem_cons]; exact fun z => z.elim h2 h1)]
theorem puts_len {α : Type} : ∀ (L acc : List (List Nat × α)), (puts acc L).length ≤ acc.length + L.length
  | [], acc => Nat.le_refl _
  | x :: r, acc => by
    have h1 := puts_len r (put acc x.1 x.2)
    have h2 := put_len acc x.1 x.2
    show (puts (put acc x.1 x.2) r).length ≤ _
    rw [List.length_cons]
    omega
theorem Lies.puts {α : Type} {R : α → V → Prop} : ∀ {L : List (List Nat × α)} {kvs : List (Key × V)} {acc : List (List Nat × α)} {akvs : List (Key × V)}, Lies R L kvs → Lies R acc akvs → Lies R (Kn.puts acc L) (mergeK akvs kvs)
  | [], _, _, _, .nil, h => h
  | x :: r, kv :: kvs, acc, akvs, .cons h t, ha => by
    have h2 := ha.put (k := x.1) h.2
    rw [← h.1] at h2
    show Lies R (Kn.puts (Kn.put acc x.1 x.2) r) (mergeK (putK akvs kv.1 kv.2) kvs)
    exact Lies.puts (L := r) (kvs := kvs) t h2
theorem put_mem {α : Type} {es : List (List Nat × α)} {k : List Nat} {e : α} {x : List Nat × α} (h : x ∈ put es k e) : x ∈ es ∨ x = (k, e) := by
  unfold put at h
  split at h
  · obtain ⟨y, hy, e2⟩ := List.mem_map.mp h
    by_cases h3 : y.1 = k
    · rw [if_pos h3] at e2
      exact .inr (by rw [← e2, h3])
    · rw [if_neg h3] at e2
      exact .inl (by rw [← e2]; exact hy)
  · rcases List.mem_append.mp h with z | z
    · exact .inl z
    · exact .inr (List.mem_singleton.mp z)
theorem upd_none {H : Hp} {a b : Addr} {o : HO} (h : upd H a o b = none) : H b = none := by
  by_cases e : b = a
  · subst e
    rw [upd_same] at h
    cases h
  · rw [upd_ne e] at h
    exact h
theorem Paired.maps {α β γ : Type} {F : α → β → Prop} {f : γ → α} {g : γ → β} : ∀ (L : List γ), (∀ i ∈ L, F (f i) (g i)) → Paired F (L.map f) (L.map g)
  | [], _ => .nil
  | x :: r, h => .cons (h x List.mem_cons_self) (Paired.maps r fun i hi => h i (List.mem_cons_of_mem _ hi))
theorem ev_dgetF {σ : L2.St} {H : Hp} {td ty : TE} {d : Addr} {k : List Nat} {kvs : List (Key × V)} {v : V} {od : Obj} (h1 : Ev td σ H (.ref d)) (h2 : Ev ty σ H (.str (S k))) (hd : H d = some (.frz od (.dK kvs))) (hv : valV kvs (Sum.inr (S k)) = some v) : Ev (tDGet td ty) σ H v := fun H1 e Q q =>
  h1 H1 e _ fun H2 e2 => h2 H2 (e.trans e2) _ fun H3 e3 => ⟨d, v, rfl, .inl ⟨kvs, Sum.inr (S k), .inr ⟨od, ((e.trans e2).trans e3) _ _ hd⟩, rfl, hv.symm⟩, q H3 (e2.trans e3)⟩
end Kn

namespace My
open PySem PySem.Spec PyProof.Rows L2 Evl SX Kn
def topS (i : Nat) : Stmt := PySem.Challenge.pw_kilnyard_k08_ends_of_links.main.body.getD i (.Pass ⟨0, 0, 0, 0⟩)
abbrev s__wall : Stmt := topS 0
abbrev N__wall : List Str := ["k"]
theorem sc__wall : FnScope N__wall ["k"] (defScope s__wall) := ⟨rfl, rfl, rfl, by decide +kernel, rfl, by decide +kernel, by decide +kernel⟩
abbrev s_is_text : Stmt := topS 12
abbrev N_is_text : List Str := ["value", "sign"]
theorem sc_is_text : FnScope N_is_text ["value"] (defScope s_is_text) := ⟨rfl, rfl, rfl, by decide +kernel, rfl, by decide +kernel, by decide +kernel⟩
abbrev s_is_content : Stmt := topS 13
abbrev N_is_content : List Str := ["value"]
theorem sc_is_content : FnScope N_is_content ["value"] (defScope s_is_content) := ⟨rfl, rfl, rfl, by decide +kernel, rfl, by decide +kernel, by decide +kernel⟩
abbrev s__is_code : Stmt := topS 14
abbrev N__is_code : List Str := ["code"]
theorem sc__is_code : FnScope N__is_code ["code"] (defScope s__is_code) := ⟨rfl, rfl, rfl, by decide +kernel, rfl, by decide +kernel, by decide +kernel⟩
abbrev s_is_path : Stmt := topS 19
abbrev N_is_path : List Str := ["value", "names", "name"]
theorem sc_is_path : FnScope N_is_path ["value"] (defScope s_is_path) := ⟨rfl, rfl, rfl, by decide +kernel, rfl, by decide +kernel, by decide +kernel⟩
abbrev s__is_name : Stmt := topS 20
abbrev N__is_name : List Str := ["name", "sign"]
theorem sc__is_name : FnScope N__is_name ["name"] (defScope s__is_name) := ⟨rfl, rfl, rfl, by decide +kernel, rfl, by decide +kernel, by decide +kernel⟩
abbrev s__is_persons : Stmt := topS 25
abbrev N__is_persons : List Str := ["entry"]
theorem sc__is_persons : FnScope N__is_persons ["entry"] (defScope s__is_persons) := ⟨rfl, rfl, rfl, by decide +kernel, rfl, by decide +kernel, by decide +kernel⟩
abbrev s__law_cell : Stmt := topS 27
abbrev N__law_cell : List Str := ["script", "k"]
theorem sc__law_cell : FnScope N__law_cell ["script", "k"] (defScope s__law_cell) := ⟨rfl, rfl, rfl, by decide +kernel, rfl, by decide +kernel, by decide +kernel⟩
abbrev s__law_end : Stmt := topS 28
abbrev N__law_end : List Str := ["links", "path", "present", "count"]
theorem sc__law_end : FnScope N__law_end ["links", "path"] (defScope s__law_end) := ⟨rfl, rfl, rfl, by decide +kernel, rfl, by decide +kernel, by decide +kernel⟩
abbrev s_law : Stmt := topS 29
abbrev N_law : List Str := ["script", "tree", "links", "first", "k", "cell", "path", "due", "end"]
theorem sc_law : FnScope N_law ["script"] (defScope s_law) := ⟨rfl, rfl, rfl, by decide +kernel, rfl, by decide +kernel, by decide +kernel⟩
abbrev s_InvalidPath___init__ : Stmt := inClass (topS 3) 0
abbrev N_InvalidPath___init__ : List Str := ["self", "path"]
theorem sc_InvalidPath___init__ : FnScope N_InvalidPath___init__ ["self", "path"] (defScope s_InvalidPath___init__) := ⟨rfl, rfl, rfl, by decide +kernel, rfl, by decide +kernel, by decide +kernel⟩
abbrev s_InvalidContent___init__ : Stmt := inClass (topS 4) 0
abbrev N_InvalidContent___init__ : List Str := ["self", "path"]
theorem sc_InvalidContent___init__ : FnScope N_InvalidContent___init__ ["self", "path"] (defScope s_InvalidContent___init__) := ⟨rfl, rfl, rfl, by decide +kernel, rfl, by decide +kernel, by decide +kernel⟩
abbrev s_TreeFull___init__ : Stmt := inClass (topS 5) 0
abbrev N_TreeFull___init__ : List Str := ["self", "path"]
theorem sc_TreeFull___init__ : FnScope N_TreeFull___init__ ["self", "path"] (defScope s_TreeFull___init__) := ⟨rfl, rfl, rfl, by decide +kernel, rfl, by decide +kernel, by decide +kernel⟩
abbrev s_Tree___init__ : Stmt := inClass (topS 24) 0
abbrev N_Tree___init__ : List Str := ["self"]
theorem sc_Tree___init__ : FnScope N_Tree___init__ ["self"] (defScope s_Tree___init__) := ⟨rfl, rfl, rfl, by decide +kernel, rfl, by decide +kernel, by decide +kernel⟩
abbrev s_Tree_write : Stmt := inClass (topS 24) 1
abbrev N_Tree_write : List Str := ["self", "path", "text", "by"]
theorem sc_Tree_write : FnScope N_Tree_write ["self", "path", "text", "by"] (defScope s_Tree_write) := ⟨rfl, rfl, rfl, by decide +kernel, rfl, by decide +kernel, by decide +kernel⟩
abbrev s_Tree_link : Stmt := inClass (topS 24) 2
abbrev N_Tree_link : List Str := ["self", "path", "target"]
theorem sc_Tree_link : FnScope N_Tree_link ["self", "path", "target"] (defScope s_Tree_link) := ⟨rfl, rfl, rfl, by decide +kernel, rfl, by decide +kernel, by decide +kernel⟩
abbrev s_Tree_erase : Stmt := inClass (topS 24) 3
abbrev N_Tree_erase : List Str := ["self", "path"]
theorem sc_Tree_erase : FnScope N_Tree_erase ["self", "path"] (defScope s_Tree_erase) := ⟨rfl, rfl, rfl, by decide +kernel, rfl, by decide +kernel, by decide +kernel⟩
abbrev s_Tree_kind : Stmt := inClass (topS 24) 4
abbrev N_Tree_kind : List Str := ["self", "path", "entry"]
theorem sc_Tree_kind : FnScope N_Tree_kind ["self", "path"] (defScope s_Tree_kind) := ⟨rfl, rfl, rfl, by decide +kernel, rfl, by decide +kernel, by decide +kernel⟩
abbrev s_Tree_read : Stmt := inClass (topS 24) 5
abbrev N_Tree_read : List Str := ["self", "path"]
theorem sc_Tree_read : FnScope N_Tree_read ["self", "path"] (defScope s_Tree_read) := ⟨rfl, rfl, rfl, by decide +kernel, rfl, by decide +kernel, by decide +kernel⟩
abbrev s_Tree_writer : Stmt := inClass (topS 24) 6
abbrev N_Tree_writer : List Str := ["self", "path"]
theorem sc_Tree_writer : FnScope N_Tree_writer ["self", "path"] (defScope s_Tree_writer) := ⟨rfl, rfl, rfl, by decide +kernel, rfl, by decide +kernel, by decide +kernel⟩
abbrev s_Tree_target : Stmt := inClass (topS 24) 7
abbrev N_Tree_target : List Str := ["self", "path"]
theorem sc_Tree_target : FnScope N_Tree_target ["self", "path"] (defScope s_Tree_target) := ⟨rfl, rfl, rfl, by decide +kernel, rfl, by decide +kernel, by decide +kernel⟩
abbrev s_Tree_resolve : Stmt := inClass (topS 24) 8
abbrev N_Tree_resolve : List Str := ["self", "path", "end", "_"]
theorem sc_Tree_resolve : FnScope N_Tree_resolve ["self", "path"] (defScope s_Tree_resolve) := ⟨rfl, rfl, rfl, by decide +kernel, rfl, by decide +kernel, by decide +kernel⟩
abbrev s_Tree_paths : Stmt := inClass (topS 24) 9
abbrev N_Tree_paths : List Str := ["self"]
theorem sc_Tree_paths : FnScope N_Tree_paths ["self"] (defScope s_Tree_paths) := ⟨rfl, rfl, rfl, by decide +kernel, rfl, by decide +kernel, by decide +kernel⟩
abbrev s_Tree_twin : Stmt := inClass (topS 24) 10
abbrev N_Tree_twin : List Str := ["self"]
theorem sc_Tree_twin : FnScope N_Tree_twin ["self"] (defScope s_Tree_twin) := ⟨rfl, rfl, rfl, by decide +kernel, rfl, by decide +kernel, by decide +kernel⟩
abbrev s_Tree__has_room : Stmt := inClass (topS 24) 11
abbrev N_Tree__has_room : List Str := ["self", "path", "persons", "entry"]
theorem sc_Tree__has_room : FnScope N_Tree__has_room ["self", "path"] (defScope s_Tree__has_room) := ⟨rfl, rfl, rfl, by decide +kernel, rfl, by decide +kernel, by decide +kernel⟩
structure Tx (mg : Str → Option Value) : Prop where
  b_abs : mg "abs" = none
  b_all : mg "all" = none
  b_dict : mg "dict" = none
  b_int : mg "int" = none
  b_isinstance : mg "isinstance" = none
  b_len : mg "len" = none
  b_ord : mg "ord" = none
  b_range : mg "range" = none
  b_sorted : mg "sorted" = none
  b_str : mg "str" = none
  c_CONTENT_LENGTH : ∃ u, mg "CONTENT_LENGTH" = some u ∧ RelV (.int 400) u
  c_NEWLINE : ∃ u, mg "NEWLINE" = some u ∧ RelV (.int 10) u
  c_SPACE : ∃ u, mg "SPACE" = some u ∧ RelV (.int 32) u
  c_PERCENT : ∃ u, mg "PERCENT" = some u ∧ RelV (.int 37) u
  c_TILDE : ∃ u, mg "TILDE" = some u ∧ RelV (.int 126) u
  c_MOST_NAMES : ∃ u, mg "MOST_NAMES" = some u ∧ RelV (.int 4) u
  c_NAME_LENGTH : ∃ u, mg "NAME_LENGTH" = some u ∧ RelV (.int 12) u
  c_NAME_SIGNS : ∃ u, mg "NAME_SIGNS" = some u ∧ RelV (.str (Str.ofString "abcdefghijklmnopqrstuvwxyz0123456789_.")) u
  c_MOST_PERSONS_ENTRIES : ∃ u, mg "MOST_PERSONS_ENTRIES" = some u ∧ RelV (.int 60) u
  c_MOST_LINKS : ∃ u, mg "MOST_LINKS" = some u ∧ RelV (.int 8) u
local macro_rules | `(tactic| walk_at "ev") => `(tactic| first
  | exact ev_c
  | exact ev_var rfl
  | exact ea_nil
  | exact eo_none
  | (apply eo_some; walk_at "ev")
  | (apply ea_cons <;> walk_at "ev")
  | (apply ev_op <;> first | walk_at "rv" | walk_at "ev")
  | (apply ev_un <;> first | exact ru_neg | walk_at "ev")
  | (apply ev_chain <;> first | walk_at "rv" | walk_at "ev")
  | (apply et_test; walk_at "ev")
  | (apply et_B; walk_at "ev")
  | (apply et_not; walk_at "ev")
  | (apply et_and; walk_at "ev"; intro _; walk_at "ev")
  | (apply et_or; walk_at "ev"; intro _; walk_at "ev")
  | (apply ev_andV; walk_at "ev"; intro _; walk_at "ev")
  | (apply ev_orV; walk_at "ev"; intro _; walk_at "ev")
  | (apply ev_notV; walk_at "ev")
  | (apply ev_cb <;> first | walk_at "rc" | walk_at "ev"))
local macro_rules | `(tactic| walk_at "rv") => `(tactic| first
  | exact rv_eqI | exact rv_neI | exact rv_eqS | exact rv_neS | exact rv_le | exact rv_lt | exact rv_ge | exact rv_gt | exact rv_inS | exact rv_ninS
  | exact rv_I0
  | exact rv_pow ⟨by decide, by decide, by decide⟩
  | exact rv_mod (by first | decide | omega)
  | exact rv_fdiv ⟨by decide, by decide⟩
  | exact rv_fdiv ⟨by omega, by omega⟩
  | exact rv_addS (by first | assumption | omega)
  | exact rv_mul (.inr ⟨by decide, by decide⟩) | exact rv_mul (.inl ⟨by decide, by decide⟩)
  | exact rv_mul (by first | exact .inl ⟨by omega, by omega⟩ | exact .inr ⟨by omega, by omega⟩)
  | exact rv_eq rfl | exact rv_ne rfl)
local macro_rules | `(tactic| walk_at "rc") => `(tactic| first
  | exact rc_abs | exact rc_int | exact rc_intB | exact rc_ord
  | exact rc_lenS (by first | assumption | omega))

/-! ### texts -/
def isCode (n : Int) : Bool := decide (n = 10) || ((decide (32 ≤ n) && decide (n ≤ 126)) && !decide (n = 37))
def okText (l : List Nat) : Bool := l.all fun c => isCode (c : Int)
section
variable {P : Program} {w : World} {K : PySem.W.Frag} {mg : Str → Option Value} {base : Heap}
def sp__is_code (_ : PySem.W.Frag) : Sp := sp1 (fun n : Int => [.int n]) (fun _ _ => True) (fun n => .bl (isCode n))
theorem ok__is_code {f : Addr} {fd : FuncData} (F : Fun K "_is_code" "_is_code" s__is_code f fd) (T : Tx mg)  : FnOk P w K mg base CX0 1 f fd ["code"] (sp__is_code K) := by
  refine F.ok sc__is_code (fun vs H Q E h => ?_) (fun cdv A outer s H vs Q E hr h => ?_)
  · obtain ⟨n, rfl, _⟩ := h
    rfl
  · obtain ⟨n, rfl, -, q⟩ := h
    refine ⟨_, (pss_one (ps_ret (pe_or (pe_cmpR op_eq (pv 0) (C8.pe_gc (by rfl) T.c_NEWLINE) (nomark _)) (pe_one (pe_and (pe_chain op_le op_le (C8.pe_gc (by rfl) T.c_SPACE) (pv 0) (C8.pe_gc (by rfl) T.c_TILDE)) (pe_one (pe_cmpR op_ne (pv 0) (C8.pe_gc (by rfl) T.c_PERCENT) (nomark _)))))))), ?_⟩
    apply s_ret
    · walk_at "ev"
    · exact q
def sp_is_text (_ : PySem.W.Frag) : Sp := sp1 (fun l : List Nat => [.str (S l)]) (fun l _ => l.length ≤ 40000) (fun l => .bl (okText l))
theorem ok_is_text {f : Addr} {fd : FuncData} (F : Fun K "is_text" "is_text" s_is_text f fd) (T : Tx mg) (C__is_code : Kn.Cl P w K mg base 1 "_is_code" (sp__is_code K)) : FnOk P w K mg base CX0 2 f fd ["value"] (sp_is_text K) := by
  refine F.ok sc_is_text (fun vs H Q E h => ?_) (fun cdv A outer s H vs Q E hr h => ?_)
  · obtain ⟨l, rfl, _⟩ := h
    rfl
  · obtain ⟨l, rfl, hl, q⟩ := h
    refine ⟨_, (pss_one (ps_ret (pe_callB (cr_all rfl) (by rfl) T.b_all (by decide +kernel) (pa_cons (pe_lc (own := [("sign", 1)]) rfl sc_is_text.nd (pi_str (pv 0)) (blkOk_by (own := [("sign", 1)]) (N := N_is_text) (sc := defScope s_is_text) (by decide +kernel)) (fun _ _ _ _ _ => pg_name (i := 1) sc_is_text.nd rfl (Or.inl rfl)) (fun _ _ _ _ _ => pts_nil) (fun _ _ _ _ _ => (Kn.pe_cl C__is_code hr (by decide) (by rfl) (pa_cons (pe_callB Kn.cr_ord (by rfl) T.b_ord (by decide +kernel) (pa_cons (pv 1) pa_nil)) pa_nil)))) pa_nil)))), ?_⟩
    refine s_ret (v := .bl (okText l)) (ev_all (p := fun c : Nat => isCode (c : Int)) (el_lcS (ev_var rfl) hl (fun _ => rfl) fun c hc H1 e1 => ?_)) q
    exact ev_c1 (a := (c : Int)) (by walk_at "ev") (fun _ _ => trivial)
def sp_is_content (_ : PySem.W.Frag) : Sp := sp1 (fun l : List Nat => [.str (S l)]) (fun l _ => l.length ≤ 40000) (fun l => .bl (decide ((l.length : Int) ≤ 400) && okText l))
theorem ok_is_content {f : Addr} {fd : FuncData} (F : Fun K "is_content" "is_content" s_is_content f fd) (T : Tx mg) (C_is_text : Kn.Cl P w K mg base 2 "is_text" (sp_is_text K)) : FnOk P w K mg base CX0 3 f fd ["value"] (sp_is_content K) := by
  refine F.ok sc_is_content (fun vs H Q E h => ?_) (fun cdv A outer s H vs Q E hr h => ?_)
  · obtain ⟨l, rfl, _⟩ := h
    rfl
  · obtain ⟨l, rfl, hl, q⟩ := h
    refine ⟨_, (pss_one (ps_ret (pe_and (pe_cmpR op_le (pe_callB Kn.cr_lenStr (by rfl) T.b_len PySem.boot_len (pa_cons (pv 0) pa_nil)) (C8.pe_gc (by rfl) T.c_CONTENT_LENGTH) (nomark _)) (pe_one (Kn.pe_cl C_is_text hr (by decide) (by rfl) (pa_cons (pv 0) pa_nil)))))), ?_⟩
    refine s_ret (ev_andV (by walk_at "ev") fun _ => ev_c1 (a := l) (by walk_at "ev") (fun _ _ => hl)) q
end

/-! ### names and paths -/
def NS : List Nat := (Str.ofString "abcdefghijklmnopqrstuvwxyz0123456789_.").cps.toList
def nameOk (G n : List Nat) : Bool := !(!(decide (1 ≤ (n.length : Int)) && decide ((n.length : Int) ≤ 12)) || decide (n[0]? = some 46)) && n.all fun c => decide (c ∈ G)
def pathOk (l : List Nat) : Bool := decide (((cut1 47 l).length : Int) ≤ 4) && (cut1 47 l).all (nameOk NS)
section
variable {P : Program} {w : World} {K : PySem.W.Frag} {mg : Str → Option Value} {base : Heap}
def sp__is_name (_ : PySem.W.Frag) : Sp := sp1 (fun l : List Nat => [.str (S l)]) (fun l _ => l.length ≤ 40000) (fun l => .bl (nameOk NS l))
theorem ok__is_name {f : Addr} {fd : FuncData} (F : Fun K "_is_name" "_is_name" s__is_name f fd) (T : Tx mg)  : FnOk P w K mg base CX0 1 f fd ["name"] (sp__is_name K) := by
  refine F.ok sc__is_name (fun vs H Q E h => ?_) (fun cdv A outer s H vs Q E hr h => ?_)
  · obtain ⟨l, rfl, _⟩ := h
    rfl
  · obtain ⟨l, rfl, hl, q⟩ := h
    refine ⟨_, (pss_cons (ps_if (PW.pt (pw_or (pt_not (pt_chain op_le op_le pe_int (pe_callB Kn.cr_lenStr (by rfl) T.b_len PySem.boot_len (pa_cons (pv 0) pa_nil)) (C8.pe_gc (by rfl) T.c_NAME_LENGTH))) (pw_or1 (pt_val (pe_m1 PySem.F.slot_str_startswith PySem.F.type_str_startswith Kn.mt_startswith (pv 0) pe_str))))) (pss_one (ps_ret pe_bl)) pss_nil)
      (pss_one (ps_ret (pe_callB (cr_all rfl) (by rfl) T.b_all (by decide +kernel) (pa_cons (pe_lc (own := [("sign", 1)]) rfl sc__is_name.nd (pi_str (pv 0)) (blkOk_by (own := [("sign", 1)]) (N := N__is_name) (sc := defScope s__is_name) (by decide +kernel)) (fun _ _ _ _ _ => pg_name (i := 1) sc__is_name.nd rfl (Or.inl rfl)) (fun _ _ _ _ _ => pts_nil) (fun _ _ _ _ _ => (pe_cmpR op_inS (pv 1) (C8.pe_gc (by rfl) T.c_NAME_SIGNS) rfl))) pa_nil))))), ?_⟩
    refine q_when (b := !(decide (1 ≤ (l.length : Int)) && decide ((l.length : Int) ≤ 12)) || decide (l[0]? = some 46)) (et_or (et_not (et_test (ev_chain ev_c (ev_cb (ea_cons (ev_var rfl) ea_nil) (rc_lenS (by omega))) rv_le ev_c rv_le))) fun _ => et_B (ev_starts (c := 46) (ev_var rfl) (ev_cS rfl))) (fun hb H1 e1 => ?_) (fun hb H1 e1 => ?_)
    · refine s_ret ev_c fun H2 e2 => ?_
      have z : Q (.bl (nameOk NS l)) H2 := q H2 (e1.trans e2)
      unfold nameOk at z
      rw [hb] at z
      exact z
    · refine s_ret (v := .bl (l.all fun c => decide (c ∈ NS))) (ev_all (p := fun c : Nat => decide (c ∈ NS)) (el_lcS (ev_var rfl) hl (fun _ => rfl) fun c hc H2 e2 => ?_)) fun H2 e2 => ?_
      · exact ev_op (ev_var rfl) (ev_cS (l := NS) rfl) rv_inS
      · have z : Q (.bl (nameOk NS l)) H2 := q H2 (e1.trans e2)
        unfold nameOk at z
        rw [hb] at z
        exact z
def sp_is_path (_ : PySem.W.Frag) : Sp := sp1 (fun l : List Nat => [.str (S l)]) (fun l _ => l.length ≤ 30000) (fun l => .bl (pathOk l))
theorem ok_is_path {f : Addr} {fd : FuncData} (F : Fun K "is_path" "is_path" s_is_path f fd) (T : Tx mg) (C__is_name : Kn.Cl P w K mg base 1 "_is_name" (sp__is_name K)) : FnOk P w K mg base CX0 2 f fd ["value"] (sp_is_path K) := by
  refine F.ok sc_is_path (fun vs H Q E h => ?_) (fun cdv A outer s H vs Q E hr h => ?_)
  · obtain ⟨l, rfl, _⟩ := h
    rfl
  · obtain ⟨l, rfl, hl, q⟩ := h
    refine ⟨_, (pss_cons (ps_set (i := 1) sc_is_path.nd rfl (Or.inl rfl) (pe_m1 PySem.F.slot_str_split PySem.F.type_str_split Kn.mt_split (pv 0) pe_str))
      (pss_one (ps_ret (pe_and (pe_cmpR op_le (pe_callB Kn.cr_lenSeq (by rfl) T.b_len PySem.boot_len (pa_cons (pv 1) pa_nil)) (C8.pe_gc (by rfl) T.c_MOST_NAMES) (nomark _)) (pe_one (pe_callB (cr_all rfl) (by rfl) T.b_all (by decide +kernel) (pa_cons (pe_lc (own := [("name", 2)]) rfl sc_is_path.nd (pi_list (pv 1)) (blkOk_by (own := [("name", 2)]) (N := N_is_path) (sc := defScope s_is_path) (by decide +kernel)) (fun _ _ _ _ _ => pg_name (i := 2) sc_is_path.nd rfl (Or.inl rfl)) (fun _ _ _ _ _ => pts_nil) (fun _ _ _ _ _ => (Kn.pe_cl C__is_name hr (by decide) (by rfl) (pa_cons (pv 2) pa_nil)))) pa_nil))))))), ?_⟩
    have hc := cut1_len 47 l
    refine q_asgL (el_split (c := 47) (ev_var rfl) (ev_cS rfl) (by decide) (by omega)) fun p H1 np e1 hp => ?_
    refine s_ret (v := .bl (pathOk l)) (ev_andV (a := decide (((cut1 47 l).length : Int) ≤ 4)) (ev_is (ev_op (ev_len (ev_var rfl) (sq_of hp)) ev_c rv_le) (by rw [List.length_map])) fun _ => ev_all (p := nameOk NS) (el_lcM (g := fun p => V.str (S p)) (ev_var rfl) (sq_of hp) (by omega) (fun _ => rfl) fun n hn H2 e2 => ?_)) fun H2 e2 => q H2 (e1.trans e2)
    have := cut1_part hn
    exact ev_c1 (a := n) (by walk_at "ev") fun _ _ => (by omega)
end

/-! ### trees -/
def eFile : List Nat := (Str.ofString "file").cps.toList
def eLink : List Nat := (Str.ofString "link").cps.toList
def eNone : List Nat := (Str.ofString "none").cps.toList
def ePerson : List Nat := (Str.ofString "person").cps.toList
theorem file_ne : ¬ eFile = eLink := by decide +kernel
theorem none_ne : ¬ eNone = eLink := by decide +kernel
inductive Ent where
  | file (t b : List Nat) | link (t : List Nat)
def entV : Ent → List V
  | .file t b => [.str (S eFile), .str (S t), .str (S b)]
  | .link t => [.str (S eLink), .str (S t)]
def kindL : Option Ent → List Nat
  | none => eNone
  | some (.file _ _) => eFile
  | some (.link _) => eLink
def isPers : Ent → Bool
  | .link _ => true
  | .file _ b => decide (b = ePerson)
def step (es : List (List Nat × Ent)) (k : List Nat) : Option (List Nat) := match look es k with
  | some (.link t) => some t
  | _ => none
theorem kind_link {es : List (List Nat × Ent)} {k : List Nat} : kindL (look es k) = eLink ↔ ∃ t, look es k = some (.link t) := by
  cases h : look es k with
  | none => exact ⟨fun z => absurd z none_ne, fun ⟨t, z⟩ => nomatch z⟩
  | some e =>
    cases e with
    | file t b => exact ⟨fun z => absurd z file_ne, fun ⟨t, z⟩ => nomatch z⟩
    | link t => exact ⟨fun _ => ⟨t, rfl⟩, fun _ => rfl⟩
/-- the end of the links, one step at a time -/
def endV (g : List Nat → Option (List Nat)) : Nat → List Nat → V
  | 0, _ => .non
  | n + 1, k => match g k with
    | none => .str (S k)
    | some t => endV g n t
theorem endV_congr {g g' : List Nat → Option (List Nat)} (h : ∀ k, g k = g' k) : ∀ n k, endV g n k = endV g' n k
  | 0, _ => rfl
  | n + 1, k => by
    show (match g k with | none => V.str (S k) | some t => endV g n t) = match g' k with | none => V.str (S k) | some t => endV g' n t
    rw [h k]
    cases g' k with
    | none => rfl
    | some t => exact endV_congr h n t
def flds (d : Addr) : List (Str × V) := putF "entries" (.ref d) []
theorem flds_eq (d : Addr) : flds d = [(("entries" : Str), V.ref d)] := rfl
theorem flds_get (d : Addr) : (flds d).lookup ("entries" : Str) = some (.ref d) := by
  unfold flds
  rw [lookup_putF, if_pos rfl]
theorem flds_no (d : Addr) {m : Str} (h : ¬ m = "entries") : (flds d).lookup m = none := by
  unfold flds
  rw [lookup_putF, if_neg h]
  rfl
structure Tc (K : PySem.W.Frag) (C : Addr) : Prop where
  cl : Cls K C
  na : NoAttr K C "entries"
def EntAt (H : Hp) (e : Ent) (v : V) : Prop := ∃ q, v = .ref q ∧ H q = some (.tup (entV e))
structure Tr (C : Addr) (H : Hp) (p d : Addr) (es : List (List Nat × Ent)) : Prop where
  ob : ∃ dx, H p = some (.ins C dx (flds d))
  dc : ∃ kvs, H d = some (.dK kvs) ∧ Lies (EntAt H) es kvs
theorem Tr.mono {C : Addr} {H H1 : Hp} {p d : Addr} {es : List (List Nat × Ent)} (T : Tr C H p d es) (e : Ex H H1) : Tr C H1 p d es := by
  obtain ⟨⟨dx, h1⟩, kvs, h2, h3⟩ := T
  exact ⟨⟨dx, e _ _ h1⟩, kvs, e _ _ h2, h3.mono fun a v ⟨q, z1, z2⟩ => ⟨q, z1, e _ _ z2⟩⟩
theorem Tr.put {C : Addr} {H : Hp} {p d r : Addr} {es : List (List Nat × Ent)} {kvs : List (Key × V)} {k : List Nat} {e : Ent} (T : Tr C H p d es) (hd : H d = some (.dK kvs)) (hr : H r = some (.tup (entV e))) :
    Tr C (upd H d (.dK (putK kvs (Sum.inr (S k)) (.ref r)))) p d (put es k e) := by
  obtain ⟨⟨dx, h1⟩, kvs', h2, h3⟩ := T
  cases Option.some.inj (hd.symm.trans h2)
  have nd : ∀ q w, H q = some (.tup w) → q ≠ d := fun q w h => ne_of h hd (by intro z; cases z)
  refine ⟨⟨dx, ?_⟩, _, upd_same, (h3.mono fun a v ⟨q, z1, z2⟩ => ⟨q, z1, ?_⟩).put ⟨r, rfl, ?_⟩⟩
  · rw [upd_ne (ne_of h1 hd (by intro z; cases z))]
    exact h1
  · rw [upd_ne (nd _ _ hr)]
    exact hr
  · rw [upd_ne (nd _ _ z2)]
    exact z2
/-- how many entries of persons there are -/
def persons (es : List (List Nat × Ent)) : Nat := ((List.range es.length).filter fun i => (es[i]?.map fun x => isPers x.2).getD false).length
def hasRoom (es : List (List Nat × Ent)) (k : List Nat) : Bool := (look es k).isSome && ((look es k).map isPers).getD false || decide ((persons es : Int) < 60)
theorem persons_le (es : List (List Nat × Ent)) : persons es ≤ es.length := by
  unfold persons
  have h := List.length_filter_le (fun i => (es[i]?.map fun x => isPers x.2).getD false) (List.range es.length)
  rw [List.length_range] at h
  exact h
theorem room_of {es : List (List Nat × Ent)} (h : es.length < 60) (k : List Nat) : hasRoom es k = true := by
  have := persons_le es
  unfold hasRoom
  rw [decide_eq_true (show (persons es : Int) < 60 by omega), Bool.or_true]
section
variable {P : Program} {w : World} {K : PySem.W.Frag} {mg : Str → Option Value} {base : Heap}
def sp_Tree___init__ (C : Addr) (_ : PySem.W.Frag) : Sp := fun vs H Q _ => ∃ (p dx : Addr), vs = [.ref p] ∧ H p = some (.ins C dx []) ∧ ∀ (d : Addr) (H' : Hp), H d = none → Tr C H' p d [] → (∀ b o, H b = some o → b ≠ p → H' b = some o) → Q .non H'
theorem ok_Tree___init__ {f C : Addr} {fd : FuncData} (F : Fun K "__init__" "Tree.__init__" s_Tree___init__ f fd) (T : Tx mg) (TC : Tc K C)  : FnOk P w K mg base CX0 1 f fd ["self"] (sp_Tree___init__ C K) := by
  refine F.ok sc_Tree___init__ (fun vs H Q E h => ?_) (fun cdv A outer s H vs Q E hr h => ?_)
  · obtain ⟨p, dx, rfl, _⟩ := h
    rfl
  · obtain ⟨p, dx, rfl, hp, k⟩ := h
    refine ⟨_, (pss_one (ps_fld (pv 0) pe_dnewK rfl)), ?_⟩
    intro d hd
    have npd : p ≠ d := ne_of_none hp hd
    refine ⟨_, rfl, p, C, dx, [], rfl, (by rw [upd_ne npd]; exact hp), TC.cl, TC.na, (by show 0 < 1000; decide), ?_⟩
    refine k d _ hd ⟨⟨dx, upd_same⟩, [], by rw [upd_ne npd.symm, upd_same], .nil⟩ fun b o e hb => ?_
    rw [upd_ne hb, upd_ne (ne_of_none e hd)]
    exact e
def sp__is_persons (K : PySem.W.Frag) : Sp := sp2 (fun (q : Addr) (_ : Ent) => [.ref q]) (fun q e H => SqT K H q (entV e)) (fun _ e => .bl (isPers e))
theorem ok__is_persons {f : Addr} {fd : FuncData} (F : Fun K "_is_persons" "_is_persons" s__is_persons f fd) (T : Tx mg)  : FnOk P w K mg base CX0 1 f fd ["entry"] (sp__is_persons K) := by
  refine F.ok sc__is_persons (fun vs H Q E h => ?_) (fun cdv A outer s H vs Q E hr h => ?_)
  · obtain ⟨a, e, rfl, _⟩ := h
    rfl
  · obtain ⟨a, e, rfl, hS, q⟩ := h
    refine ⟨_, (pss_one (ps_ret (pe_or (pe_cmpR op_eq (pe_ix ix_tup (pv 0) pe_int (fun _ _ => rfl)) pe_str (nomark _)) (pe_one (pe_cmpR op_eq (pe_ix ix_tup (pv 0) pe_int (fun _ _ => rfl)) pe_str (nomark _)))))), ?_⟩
    cases e with
    | file t b =>
      refine s_ret (v := .bl (decide (b = ePerson))) (ev_is (ev_orV (a := false) (b := decide (b = ePerson)) (ev_is (ev_op (ev_op (ev_var rfl) ev_c (rv_ix0 (i := 0) (v := .str (S eFile)) hS rfl)) (ev_cS (l := eLink) rfl) rv_eqS) (by rw [decide_eq_false file_ne])) fun _ => ev_op (ev_op (ev_var rfl) ev_c (rv_ix0 (i := 2) (v := .str (S b)) hS rfl)) (ev_cS (l := ePerson) rfl) rv_eqS) (by rw [Bool.false_or])) q
    | link t =>
      refine s_ret (v := .bl true) (ev_is (ev_orV (a := true) (b := true) (ev_is (ev_op (ev_op (ev_var rfl) ev_c (rv_ix0 (i := 0) (v := .str (S eLink)) hS rfl)) (ev_cS (l := eLink) rfl) rv_eqS) (by rw [decide_eq_true rfl])) fun z => nomatch z) rfl) q
def sp_Tree_kind (C : Addr) (_ : PySem.W.Frag) : Sp := fun vs H Q _ => ∃ (p d : Addr) (es : List (List Nat × Ent)) (k : List Nat), vs = [.ref p, .str (S k)] ∧ Tr C H p d es ∧ Rt H (.str (S (kindL (look es k)))) Q
theorem ok_Tree_kind {f C : Addr} {fd : FuncData} (F : Fun K "kind" "Tree.kind" s_Tree_kind f fd) (T : Tx mg) (TC : Tc K C)  : FnOk P w K mg base CX0 1 f fd ["self", "path"] (sp_Tree_kind C K) := by
  refine F.ok sc_Tree_kind (fun vs H Q E h => ?_) (fun cdv A outer s H vs Q E hr h => ?_)
  · obtain ⟨p, d, es, k, rfl, _⟩ := h
    rfl
  · obtain ⟨p, d, es, k, rfl, ⟨⟨dx, hp⟩, kvs, hd, hL⟩, q⟩ := h
    refine ⟨_, (pss_cons (ps_set (i := 2) sc_Tree_kind.nd rfl (Or.inl rfl) (pe_dget1 (hu_of hr) (pe_fld (pv 0) rfl) (pv 1) ⟨rfl, rfl, rfl, rfl⟩))
      (pss_one (ps_ret (pe_ifExp (pt_cmpR op_isN1 (pv 2) pe_non (nomark _)) pe_str (pe_ix ix_tup (pv 2) pe_int (fun _ _ => rfl)))))), ?_⟩
    refine q_asg (ev_dget1 (k := k) (ev_fld (ev_var rfl) hp TC.cl TC.na (flds_get d)) (ev_var rfl) hd) fun H1 e1 => ?_
    rcases hL.look k with ⟨h1, h2⟩ | ⟨e, v, h1, h2, r, rfl, hr2⟩
    · rw [h2]
      rw [h1] at q
      refine s_ret (v := .str (S eNone)) (ev_if (et_isN (ev_var rfl)) (fun _ => ev_cS rfl) fun z => ?_) fun H2 e2 => q H2 (e1.trans e2)
      exact absurd z (by decide)
    · rw [h2]
      rw [h1] at q
      refine s_ret (v := .str (S (kindL (some e)))) (ev_if (et_isN (ev_var rfl)) (fun z => ?_) fun _ => ?_) fun H2 e2 => q H2 (e1.trans e2)
      · exact absurd z (by simp)
      · refine ev_op (ev_var rfl) ev_c (rv_ix0 (i := 0) (st_of (e1 _ _ hr2)) ?_)
        cases e <;> rfl
theorem kind_sp {C p d : Addr} {H : Hp} {es : List (List Nat × Ent)} {k : List Nat} (T : Tr C H p d es) : SpV (sp_Tree_kind C K) [.ref p, .str (S k)] H (.str (S (kindL (look es k)))) := fun H1 e Q q E => ⟨p, d, es, k, rfl, T.mono e, fun H2 e2 => q H2 e2⟩
def tgtV (o : Option (List Nat)) : V := match o with | none => .non | some t => .str (S t)
def sp_Tree_target (C : Addr) (_ : PySem.W.Frag) : Sp := fun vs H Q _ => ∃ (p d : Addr) (es : List (List Nat × Ent)) (k : List Nat), vs = [.ref p, .str (S k)] ∧ Tr C H p d es ∧ Rt H (tgtV (step es k)) Q
theorem ok_Tree_target {f C : Addr} {fd : FuncData} (F : Fun K "target" "Tree.target" s_Tree_target f fd) (T : Tx mg) (TC : Tc K C) (M_Tree_kind : Kn.Mt P w K mg base 1 C "kind" (sp_Tree_kind C K)) : FnOk P w K mg base CX0 2 f fd ["self", "path"] (sp_Tree_target C K) := by
  refine F.ok sc_Tree_target (fun vs H Q E h => ?_) (fun cdv A outer s H vs Q E hr h => ?_)
  · obtain ⟨p, d, es, k, rfl, _⟩ := h
    rfl
  · obtain ⟨p, d, es, k, rfl, TR, q⟩ := h
    refine ⟨_, (pss_one (ps_ret (pe_ifExp (pt_cmpR op_eq (Kn.pe_mt M_Tree_kind hr (by decide) (pv 0) (pa_cons (pv 1) pa_nil)) pe_str (nomark _)) (pe_ix ix_tup (pe_dget (hu_of hr) (pe_fld (pv 0) rfl) (pv 1) (fun _ _ => rfl)) pe_int (fun _ _ => rfl)) pe_non))), ?_⟩
    obtain ⟨⟨dx, hp⟩, kvs, hd, hL⟩ := id TR
    refine s_ret (v := tgtV (step es k)) (ev_if (b := decide (kindL (look es k) = eLink)) (et_test (ev_op (ev_meth (ev_var rfl) hp (flds_no d (by decide +kernel)) (ea_cons (ev_var rfl) ea_nil) (kind_sp TR)) (ev_cS (l := eLink) rfl) rv_eqS)) (fun hb => ?_) (fun hb => ?_)) q
    · obtain ⟨t, ht⟩ := kind_link.mp (of_decide_eq_true hb)
      rcases hL.look k with ⟨h1, h2⟩ | ⟨e, v, h1, h2, r, rfl, hr2⟩
      · rw [ht] at h1
        cases h1
      · rw [ht] at h1
        cases Option.some.inj h1
        have e : tgtV (step es k) = .str (S t) := by
          unfold step
          rw [ht]
          rfl
        rw [e]
        exact ev_op (ev_dget (ev_fld (ev_var rfl) hp TC.cl TC.na (flds_get d)) (ev_var rfl) hd h2) ev_c (rv_ix0 (i := 1) (st_of hr2) rfl)
    · have e : step es k = none := by
        unfold step
        cases h : look es k with
        | none => rfl
        | some e =>
          cases e with
          | file t b => rfl
          | link t => exact absurd (kind_link.mpr ⟨t, h⟩) (of_decide_eq_false hb)
      rw [e]
      exact ev_c
theorem target_sp {C p d : Addr} {H : Hp} {es : List (List Nat × Ent)} {k : List Nat} (T : Tr C H p d es) : SpV (sp_Tree_target C K) [.ref p, .str (S k)] H (tgtV (step es k)) := fun H1 e Q q E => ⟨p, d, es, k, rfl, T.mono e, fun H2 e2 => q H2 e2⟩
def sp_Tree__has_room (C : Addr) (_ : PySem.W.Frag) : Sp := fun vs H Q _ => ∃ (p d : Addr) (es : List (List Nat × Ent)) (k : List Nat), vs = [.ref p, .str (S k)] ∧ Tr C H p d es ∧ es.length ≤ 30000 ∧ Rt H (.bl (hasRoom es k)) Q
theorem ok_Tree__has_room {f C : Addr} {fd : FuncData} (F : Fun K "_has_room" "Tree._has_room" s_Tree__has_room f fd) (T : Tx mg) (TC : Tc K C) (C__is_persons : Kn.Cl P w K mg base 1 "_is_persons" (sp__is_persons K)) : FnOk P w K mg base CX0 2 f fd ["self", "path"] (sp_Tree__has_room C K) := by
  refine F.ok sc_Tree__has_room (fun vs H Q E h => ?_) (fun cdv A outer s H vs Q E hr h => ?_)
  · obtain ⟨p, d, es, k, rfl, _⟩ := h
    rfl
  · obtain ⟨p, d, es, k, rfl, TR, hlen, q⟩ := h
    refine ⟨_, (pss_cons (ps_if (PW.pt (pw_and (pt_cmp (pc_din (hu_of hr) (pv 1) (pe_fld (pv 0) rfl))) (pw_and1 (pt_val (Kn.pe_cl C__is_persons hr (by decide) (by rfl) (pa_cons (pe_dget (hu_of hr) (pe_fld (pv 0) rfl) (pv 1) (fun _ _ => rfl)) pa_nil)))))) (pss_one (ps_ret pe_bl)) pss_nil)
      (pss_cons (ps_lock (ps_setLc (i := 2) (own := [("entry", 3)]) rfl sc_Tree__has_room.nd rfl rfl (sw_true rfl rfl rfl (by decide +kernel)) (pi_values (pe_fld (pv 0) rfl)) (blkOk_by (own := [("entry", 3)]) (N := N_Tree__has_room) (sc := defScope s_Tree__has_room) (by decide +kernel)) (fun _ _ _ _ _ => pg_name (i := 3) sc_Tree__has_room.nd rfl (Or.inl rfl)) (fun _ _ _ _ _ => (pts_one (pt_val (Kn.pe_cl C__is_persons hr (by decide) (by rfl) (pa_cons (pv 3) pa_nil))))) (fun _ _ _ _ _ => (pv 3))))
      (pss_one (ps_ret (pe_cmpR op_lt (pe_callB Kn.cr_lenSeq (by rfl) T.b_len PySem.boot_len (pa_cons (pv 2) pa_nil)) (C8.pe_gc (by rfl) T.c_MOST_PERSONS_ENTRIES) (nomark _)))))), ?_⟩
    obtain ⟨⟨dx, hp⟩, kvs, hd, hL⟩ := id TR
    have hkl := hL.len
    have fe : Ev (tFld K (tVar 0) "entries") [some (.ref p), some (.str (S k)), none, none] H (.ref d) := ev_fld (ev_var rfl) hp TC.cl TC.na (flds_get d)
    refine q_when (b := (look es k).isSome && ((look es k).map isPers).getD false) (et_and (a := (look es k).isSome) (et_is (et_din (k := k) (ev_var rfl) fe hd) ?_) fun hs => et_B ?_) (fun hb H1 e1 => ?_) (fun hb H1 e1 => ?_)
    · rcases hL.look k with ⟨h1, h2⟩ | ⟨e, v, h1, h2, _⟩
      · rw [h1, h2]
        rfl
      · rw [h1, h2]
        rfl
    · rcases hL.look k with ⟨h1, h2⟩ | ⟨e, v, h1, h2, r, rfl, hr2⟩
      · rw [h1] at hs
        cases hs
      · rw [h1]
        exact ev_c2 (a := r) (b := e) (ea_cons (ev_dget fe (ev_var rfl) hd h2) ea_nil) fun H2 e2 => st_of (e2 _ _ hr2)
    · refine s_ret ev_c fun H2 e2 => ?_
      have z := q H2 (e1.trans e2)
      unfold hasRoom at z
      rw [hb] at z
      exact z
    · replace q : ∀ H2, Ex H1 H2 → Q (.bl (decide ((persons es : Int) < 60))) H2 := fun H2 e => by
        have z := q H2 (e1.trans e)
        unfold hasRoom at z
        rw [hb, Bool.false_or] at z
        exact z
      have hd1 := e1 _ _ hd
      show tLock _ _ _ _
      refine s_lcVals (D := { nx := _, rt := Q }) (fun i => (es[i]?.map fun x => isPers x.2).getD false) (fun H2 hn => ?_) hd1 (by omega) (fun _ => rfl) (fun i kv H2 hk hi => ?_) (fun x H2 => ev_var rfl) fun r H2 nr e2 hr2 => ?_
      · exact ev_fld (ev_var rfl) (hn _ _ (ne_of hp hd (by intro z; cases z)) (e1 _ _ hp)) TC.cl TC.na (flds_get d)
      · obtain ⟨x, hx, _, q2, hq2, hq3⟩ := hL.get i kv hi
        rw [hx]
        refine et_B (ev_c2 (a := q2) (b := x.2) (ea_cons (ev_var (by rw [hq2]; rfl)) ea_nil) fun H3 e3 => st_of (e3 _ _ (hk _ _ (ne_of hq3 hd (by intro z; cases z)) (e1 _ _ hq3))))
      · refine s_ret (v := .bl (decide ((persons es : Int) < 60))) (ev_is (ev_op (ev_len (ev_var rfl) (sq_of hr2)) ev_c rv_lt) ?_) fun H3 e3 => q H3 (e2.trans e3)
        have e : (given kvs.length (fun i => (es[i]?.map fun x => isPers x.2).getD false) fun i => (kvs[i]?.map (·.2)).getD .non).length = persons es := by
          unfold given persons
          rw [List.length_map, hkl]
        rw [e]
theorem room_sp {C p d : Addr} {H : Hp} {es : List (List Nat × Ent)} {k : List Nat} (T : Tr C H p d es) (hl : es.length ≤ 30000) : SpV (sp_Tree__has_room C K) [.ref p, .str (S k)] H (.bl (hasRoom es k)) := fun H1 e Q q E => ⟨p, d, es, k, rfl, T.mono e, hl, fun H2 e2 => q H2 e2⟩
/-- behind a change of the tree's entries -/
def Keeps (H H' : Hp) (d : Addr) : Prop := ∀ b o, H b = some o → b ≠ d → H' b = some o
def sp_Tree_link (C : Addr) (_ : PySem.W.Frag) : Sp := fun vs H Q _ => ∃ (p d : Addr) (es : List (List Nat × Ent)) (k t : List Nat), vs = [.ref p, .str (S k), .str (S t)] ∧ Tr C H p d es ∧ es.length ≤ 30000 ∧ (k.length ≤ 30000 ∧ t.length ≤ 30000) ∧ pathOk k = true ∧ pathOk t = true ∧ hasRoom es k = true ∧
  ∀ H', Tr C H' p d (put es k (.link t)) → Keeps H H' d → Q .non H'
theorem ok_Tree_link {f C : Addr} {fd : FuncData} (F : Fun K "link" "Tree.link" s_Tree_link f fd) (T : Tx mg) (TC : Tc K C) (C_is_path : Kn.Cl P w K mg base 2 "is_path" (sp_is_path K)) (M_Tree__has_room : Kn.Mt P w K mg base 2 C "_has_room" (sp_Tree__has_room C K)) : FnOk P w K mg base CX0 3 f fd ["self", "path", "target"] (sp_Tree_link C K) := by
  refine F.ok sc_Tree_link (fun vs H Q E h => ?_) (fun cdv A outer s H vs Q E hr h => ?_)
  · obtain ⟨p, d, es, k, t, rfl, _⟩ := h
    rfl
  · obtain ⟨p, d, es, k, t, rfl, TR, hlen, ⟨hk, ht⟩, pk, pt, hroom, q⟩ := h
    refine ⟨_, (pss_cons (ps_if (pt_not (pt_val (Kn.pe_cl C_is_path hr (by decide) (by rfl) (pa_cons (pv 1) pa_nil)))) (pss_one ps_never) pss_nil)
      (pss_cons (ps_if (pt_not (pt_val (Kn.pe_cl C_is_path hr (by decide) (by rfl) (pa_cons (pv 2) pa_nil)))) (pss_one ps_never) pss_nil)
      (pss_cons (ps_if (pt_not (pt_val (Kn.pe_mt M_Tree__has_room hr (by decide) (pv 0) (pa_cons (pv 1) pa_nil)))) (pss_one ps_never) pss_nil)
      (pss_one (ps_dput (hu_of hr) (pe_fld (pv 0) rfl) (pv 1) (pe_tup (pa_cons pe_str (pa_cons (pv 2) pa_nil))) rfl))))), ?_⟩
    refine q_when (b := false) (et_not (a := true) (et_B (ev_is (ev_c1 (a := k) (by walk_at "ev") fun _ _ => hk) (congrArg V.bl pk)))) (fun z => nomatch z) fun _ H1 e1 => ?_
    refine q_when (b := false) (et_not (a := true) (et_B (ev_is (ev_c1 (a := t) (by walk_at "ev") fun _ _ => ht) (congrArg V.bl pt)))) (fun z => nomatch z) fun _ H2 e2 => ?_
    have T2 := TR.mono (e1.trans e2)
    obtain ⟨⟨dx, hp⟩, kvs, hd, hL⟩ := id T2
    refine q_when (b := false) (et_not (a := true) (et_B (ev_is (ev_meth (ev_var rfl) hp (flds_no d (by decide +kernel)) (ea_cons (ev_var rfl) ea_nil) (room_sp T2 hlen)) (congrArg V.bl hroom)))) (fun z => nomatch z) fun _ H3 e3 => ?_
    have T3 := T2.mono e3
    refine s_dputU (xs := entV (.link t)) (k := k) (eu_tup (ea_cons (ev_cS (l := eLink) rfl) (ea_cons (ev_var rfl) ea_nil)) (by show 2 ≤ 100000; decide)) (fun H4 e4 => ev_fld (ev_var rfl) (e4 _ _ (e3 _ _ hp)) TC.cl TC.na (flds_get d)) (fun H4 e4 => ev_var rfl) (e3 _ _ hd) (by have := hL.len; omega) fun r H4 nr e4 hr4 => ?_
    refine q _ ((T3.mono e4).put (e4 _ _ (e3 _ _ hd)) hr4) fun b o hb hne => ?_
    rw [upd_ne hne]
    exact e4 _ _ (e3 _ _ (e2 _ _ (e1 _ _ hb)))
def sp_Tree_write (C : Addr) (_ : PySem.W.Frag) : Sp := fun vs H Q _ => ∃ (p d : Addr) (es : List (List Nat × Ent)) (k t b : List Nat), vs = [.ref p, .str (S k), .str (S t), .str (S b)] ∧ Tr C H p d es ∧ es.length ≤ 30000 ∧ (k.length ≤ 30000 ∧ t.length ≤ 30000) ∧ pathOk k = true ∧ (decide ((t.length : Int) ≤ 400) && okText t) = true ∧ (b = ePerson → hasRoom es k = true) ∧
  ∀ H', Tr C H' p d (put es k (.file t b)) → Keeps H H' d → Q .non H'
theorem ok_Tree_write {f C : Addr} {fd : FuncData} (F : Fun K "write" "Tree.write" s_Tree_write f fd) (T : Tx mg) (TC : Tc K C) (C_is_path : Kn.Cl P w K mg base 2 "is_path" (sp_is_path K)) (C_is_content : Kn.Cl P w K mg base 3 "is_content" (sp_is_content K)) (M_Tree__has_room : Kn.Mt P w K mg base 2 C "_has_room" (sp_Tree__has_room C K)) : FnOk P w K mg base CX0 4 f fd ["self", "path", "text", "by"] (sp_Tree_write C K) := by
  refine F.ok sc_Tree_write (fun vs H Q E h => ?_) (fun cdv A outer s H vs Q E hr h => ?_)
  · obtain ⟨p, d, es, k, t, b, rfl, _⟩ := h
    rfl
  · obtain ⟨p, d, es, k, t, b, rfl, TR, hlen, ⟨hk, ht⟩, pk, pt, hroom, q⟩ := h
    refine ⟨_, (pss_cons (ps_if (pt_not (pt_val (Kn.pe_cl C_is_path hr (by decide) (by rfl) (pa_cons (pv 1) pa_nil)))) (pss_one ps_never) pss_nil)
      (pss_cons (ps_if (pt_not (pt_val (Kn.pe_cl C_is_content hr (by decide) (by rfl) (pa_cons (pv 2) pa_nil)))) (pss_one ps_never) pss_nil)
      (pss_cons (ps_if (PW.pt (pw_and (pt_cmpR op_eq (pv 3) pe_str (nomark _)) (pw_and1 (pt_not (pt_val (Kn.pe_mt M_Tree__has_room hr (by decide) (pv 0) (pa_cons (pv 1) pa_nil))))))) (pss_one ps_never) pss_nil)
      (pss_one (ps_dput (hu_of hr) (pe_fld (pv 0) rfl) (pv 1) (pe_tup (pa_cons pe_str (pa_cons (pv 2) (pa_cons (pv 3) pa_nil)))) rfl))))), ?_⟩
    refine q_when (b := false) (et_not (a := true) (et_B (ev_is (ev_c1 (a := k) (by walk_at "ev") fun _ _ => hk) (congrArg V.bl pk)))) (fun z => nomatch z) fun _ H1 e1 => ?_
    refine q_when (b := false) (et_not (a := true) (et_B (ev_is (ev_c1 (a := t) (by walk_at "ev") fun _ _ => (by omega)) (congrArg V.bl pt)))) (fun z => nomatch z) fun _ H2 e2 => ?_
    have T2 := TR.mono (e1.trans e2)
    obtain ⟨⟨dx, hp⟩, kvs, hd, hL⟩ := id T2
    refine q_when (b := false) (et_is (et_and (a := decide (b = ePerson)) (b := !hasRoom es k) (et_test (ev_op (ev_var rfl) (ev_cS (l := ePerson) rfl) rv_eqS)) fun _ => et_not (et_B (ev_meth (ev_var rfl) hp (flds_no d (by decide +kernel)) (ea_cons (ev_var rfl) ea_nil) (room_sp T2 hlen)))) ?_) (fun z => nomatch z) fun _ H3 e3 => ?_
    · by_cases h : b = ePerson
      · rw [hroom h, Bool.not_true, Bool.and_false]
      · rw [decide_eq_false h, Bool.false_and]
    have T3 := T2.mono e3
    refine s_dputU (xs := entV (.file t b)) (k := k) (eu_tup (ea_cons (ev_cS (l := eFile) rfl) (ea_cons (ev_var rfl) (ea_cons (ev_var rfl) ea_nil))) (by show 3 ≤ 100000; decide)) (fun H4 e4 => ev_fld (ev_var rfl) (e4 _ _ (e3 _ _ hp)) TC.cl TC.na (flds_get d)) (fun H4 e4 => ev_var rfl) (e3 _ _ hd) (by have := hL.len; omega) fun r H4 nr e4 hr4 => ?_
    refine q _ ((T3.mono e4).put (e4 _ _ (e3 _ _ hd)) hr4) fun b o hb hne => ?_
    rw [upd_ne hne]
    exact e4 _ _ (e3 _ _ (e2 _ _ (e1 _ _ hb)))
end

section
variable {P : Program} {w : World} {K : PySem.W.Frag} {mg : Str → Option Value} {base : Heap}
/-! ### the end of the links -/
def sp_Tree_resolve (C : Addr) (_ : PySem.W.Frag) : Sp := fun vs H Q _ => ∃ (p d : Addr) (es : List (List Nat × Ent)) (k : List Nat), vs = [.ref p, .str (S k)] ∧ Tr C H p d es ∧ Rt H (endV (step es) 9 k) Q
theorem end_none {g : List Nat → Option (List Nat)} {n : Nat} {k : List Nat} (h : g k = none) : endV g (n + 1) k = .str (S k) := by
  show (match g k with | none => V.str (S k) | some t => endV g n t) = _
  rw [h]
theorem end_some {g : List Nat → Option (List Nat)} {n : Nat} {k t : List Nat} (h : g k = some t) : endV g (n + 1) k = endV g n t := by
  show (match g k with | none => V.str (S k) | some t => endV g n t) = _
  rw [h]
theorem step_some {es : List (List Nat × Ent)} {k : List Nat} (h : kindL (look es k) = eLink) : ∃ t, step es k = some t := by
  obtain ⟨t, ht⟩ := kind_link.mp h
  refine ⟨t, ?_⟩
  unfold step
  rw [ht]
theorem step_none {es : List (List Nat × Ent)} {k : List Nat} (h : ¬ kindL (look es k) = eLink) : step es k = none := by
  unfold step
  cases h2 : look es k with
  | none => rfl
  | some e =>
    cases e with
    | file t b => rfl
    | link t => exact absurd (kind_link.mpr ⟨t, h2⟩) h
theorem ok_Tree_resolve {f C : Addr} {fd : FuncData} (F : Fun K "resolve" "Tree.resolve" s_Tree_resolve f fd) (T : Tx mg) (TC : Tc K C) (M_Tree_kind : Kn.Mt P w K mg base 1 C "kind" (sp_Tree_kind C K)) (M_Tree_target : Kn.Mt P w K mg base 2 C "target" (sp_Tree_target C K)) : FnOk P w K mg base CX0 3 f fd ["self", "path"] (sp_Tree_resolve C K) := by
  refine F.ok sc_Tree_resolve (fun vs H Q E h => ?_) (fun cdv A outer s H vs Q E hr h => ?_)
  · obtain ⟨p, d, es, k, rfl, _⟩ := h
    rfl
  · obtain ⟨p, d, es, k, rfl, TR, q⟩ := h
    refine ⟨_, (pss_cons (ps_set (i := 2) sc_Tree_resolve.nd rfl (Or.inl rfl) (pv 1))
      (pss_cons (ps_for PassesOwn.never rfl (pi_range1 rfl T.b_range (pa_cons (C8.pe_gc (by rfl) T.c_MOST_LINKS) pa_nil)) (pg_name (i := 3) sc_Tree_resolve.nd rfl (Or.inl rfl)) (pss_cons (ps_if (pt_cmpR op_ne (Kn.pe_mt M_Tree_kind hr (by decide) (pv 0) (pa_cons (pv 2) pa_nil)) pe_str (nomark _)) (pss_one (ps_ret (pv 2))) pss_nil)
      (pss_one (ps_set (i := 2) sc_Tree_resolve.nd rfl (Or.inl rfl) (Kn.pe_mt M_Tree_target hr (by decide) (pv 0) (pa_cons (pv 2) pa_nil))))))
      (pss_one (ps_ret (pe_ifExp (pt_cmpR op_eq (Kn.pe_mt M_Tree_kind hr (by decide) (pv 0) (pa_cons (pv 2) pa_nil)) pe_str (nomark _)) pe_non (pv 2)))))), ?_⟩
    refine q_asg (ev_var rfl) fun H1 e1 => ?_
    refine q_forR1 (n := 8) (ea_cons ev_c ea_nil) ⟨by decide, by decide⟩ (fun i σ' H' => ∃ cur x, σ' = [some (.ref p), some (.str (S k)), some (.str (S cur)), x] ∧ Ex H H' ∧ endV (step es) (9 - i) cur = endV (step es) 9 k) (fun H2 e2 => ⟨k, _, rfl, e1.trans e2, rfl⟩) ?_ ?_
    · rintro i σ' H2 hi ⟨cur, x, rfl, e2, hend⟩
      have T2 := TR.mono e2
      obtain ⟨⟨dx, hp⟩, _⟩ := id T2
      refine q_when (b := !decide (kindL (look es cur) = eLink)) (et_test (ev_op (ev_meth (ev_var rfl) hp (flds_no d (by decide +kernel)) (ea_cons (ev_var rfl) ea_nil) (kind_sp T2)) (ev_cS (l := eLink) rfl) rv_neS)) (fun hb H3 e3 => ?_) (fun hb H3 e3 => ?_)
      · have hn : ¬ kindL (look es cur) = eLink := fun z => by
          rw [decide_eq_true z] at hb
          cases hb
        refine s_ret (ev_var rfl) fun H4 e4 => ?_
        have z : Q (endV (step es) 9 k) H4 := q H4 ((e2.trans e3).trans e4)
        rw [← hend, show 9 - i = (8 - i) + 1 by omega, end_none (step_none hn)] at z
        exact z
      · have hl : kindL (look es cur) = eLink := by
          by_cases z : kindL (look es cur) = eLink
          · exact z
          · rw [decide_eq_false z] at hb
            cases hb
        obtain ⟨t, ht⟩ := step_some hl
        refine s_asg (v := .str (S t)) (ev_is (ev_meth (ev_var rfl) (e3 _ _ hp) (flds_no d (by decide +kernel)) (ea_cons (ev_var rfl) ea_nil) (target_sp (T2.mono e3))) (by rw [ht]; rfl)) fun H4 e4 => ⟨t, _, rfl, (e2.trans e3).trans e4, ?_⟩
        rw [← hend, show 9 - i = (9 - (i + 1)) + 1 by omega, end_some ht]
    · rintro σ' H2 ⟨cur, x, rfl, e2, hend⟩
      have T2 := TR.mono e2
      obtain ⟨⟨dx, hp⟩, _⟩ := id T2
      refine s_ret (v := endV (step es) 9 k) (ev_if (b := decide (kindL (look es cur) = eLink)) (et_test (ev_op (ev_meth (ev_var rfl) hp (flds_no d (by decide +kernel)) (ea_cons (ev_var rfl) ea_nil) (kind_sp T2)) (ev_cS (l := eLink) rfl) rv_eqS)) (fun hb => ?_) (fun hb => ?_)) fun H3 e3 => q H3 (e2.trans e3)
      · obtain ⟨t, ht⟩ := step_some (of_decide_eq_true hb)
        rw [← hend]
        show Ev _ _ _ (endV (step es) (0 + 1) cur)
        rw [end_some ht]
        exact ev_c
      · rw [← hend]
        show Ev _ _ _ (endV (step es) (0 + 1) cur)
        rw [end_none (step_none (of_decide_eq_false hb))]
        exact ev_var rfl
theorem resolve_sp {C p d : Addr} {H : Hp} {es : List (List Nat × Ent)} {k : List Nat} (T : Tr C H p d es) : SpV (sp_Tree_resolve C K) [.ref p, .str (S k)] H (endV (step es) 9 k) := fun H1 e Q q E => ⟨p, d, es, k, rfl, T.mono e, fun H2 e2 => q H2 e2⟩
def sp__law_cell (K : PySem.W.Frag) : Sp := sp3 (fun (a : Addr) (_ : List Int) (k : Nat) => [.ref a, .int (k : Int)]) (fun a ns _ H => SqL K H a (ns.map V.int)) (fun _ ns k => .int (L2.cellOf ns k))
theorem ok__law_cell {f : Addr} {fd : FuncData} (F : Fun K "_law_cell" "_law_cell" s__law_cell f fd) (T : Tx mg)  : FnOk P w K mg base CX0 1 f fd ["script", "k"] (sp__law_cell K) := by
  refine F.ok sc__law_cell (fun vs H Q E h => ?_) (fun cdv A outer s H vs Q E hr h => ?_)
  · obtain ⟨a, ns, k, rfl, _⟩ := h
    rfl
  · obtain ⟨a, ns, k, rfl, hS, q⟩ := h
    refine ⟨_, (pss_cons (ps_if (pt_cmpR op_lt (pv 1) (pe_callB Kn.cr_lenSeq (by rfl) T.b_len PySem.boot_len (pa_cons (pv 0) pa_nil)) (nomark _)) (pss_one (ps_ret (pe_callTy Kn.cr_int1 (by rfl) T.b_int (by decide +kernel) (pa_cons (pe_ix ix_list (pv 0) (pv 1) (fun _ _ => rfl)) pa_nil)))) pss_nil)
      (pss_one (ps_ret pe_int))), ?_⟩
    refine q_when (et_test (ev_op (ev_var rfl) (ev_len (ev_var rfl) hS) rv_lt)) (fun hb H1 e1 => ?_) (fun hb H1 e1 => ?_)
    · have hk : k < ns.length := by
        rw [List.length_map, decide_eq_true_eq] at hb
        omega
      exact s_ret (ev_cb (ea_cons (ev_op (ev_var rfl) (ev_var rfl) (rv_ixL (ex_l e1 hS) (atI_cell hk))) ea_nil) rc_int) fun H2 e2 => q H2 (e1.trans e2)
    · have hk : ¬ k < ns.length := by
        rw [List.length_map, decide_eq_false_iff_not] at hb
        omega
      refine s_ret ev_c fun H2 e2 => ?_
      have z : Q (.int (L2.cellOf ns k)) H2 := q H2 (e1.trans e2)
      rw [cell_out hk] at z
      exact z

/-! ### the law's own links -/
def TxtV (t : List Nat) (v : V) : Prop := v = .str (S t)
def sp__law_end (_ : PySem.W.Frag) : Sp := fun vs H Q _ => ∃ (d : Addr) (ls : List (List Nat × List Nat)) (kvs : List (Key × V)) (k : List Nat), vs = [.ref d, .str (S k)] ∧ H d = some (.dK kvs) ∧ Lies TxtV ls kvs ∧ Rt H (endV (look ls) 9 k) Q
theorem ok__law_end {f : Addr} {fd : FuncData} (F : Fun K "_law_end" "_law_end" s__law_end f fd) (T : Tx mg)  : FnOk P w K mg base CX0 1 f fd ["links", "path"] (sp__law_end K) := by
  refine F.ok sc__law_end (fun vs H Q E h => ?_) (fun cdv A outer s H vs Q E hr h => ?_)
  · obtain ⟨p, ls, kvs, k, rfl, _⟩ := h
    rfl
  · obtain ⟨d, ls, kvs, k, rfl, hd, hL, q⟩ := h
    refine ⟨_, (pss_cons (ps_set (i := 2) sc__law_end.nd rfl (Or.inl rfl) (pv 1))
      (pss_cons (ps_set (i := 3) sc__law_end.nd rfl (Or.inl rfl) pe_int)
      (pss_cons (ps_while PassesOwn.never (PW.pt (pw_and (pt_cmp (pc_din (hu_of hr) (pv 2) (pv 0))) (pw_and1 (pt_cmpR op_lt (pv 3) pe_int (nomark _))))) (pss_cons (ps_set (i := 2) sc__law_end.nd rfl (Or.inl rfl) (pe_dget (hu_of hr) (pv 0) (pv 2) (fun _ _ => rfl)))
      (pss_one (ps_aug (i := 3) sc__law_end.nd rfl (Or.inl rfl) pe_int ip_add))))
      (pss_cons (ps_if (pt_cmpR op_eq (pv 3) pe_int (nomark _)) (pss_one (ps_ret pe_non)) pss_nil)
      (pss_one (ps_ret (pv 2))))))), ?_⟩
    refine q_asg (ev_var rfl) fun H1 e1 => ?_
    refine q_asg ev_c fun H2 e2 => ?_
    refine q_while (fun m σ' H' => ∃ cur c, c + m = 9 ∧ σ' = [some (.ref d), some (.str (S k)), some (.str (S cur)), some (.int (c : Int))] ∧ Ex H H' ∧ endV (look ls) (9 - c) cur = endV (look ls) 9 k) 9 ⟨k, 0, rfl, rfl, e1.trans e2, rfl⟩ ?_
    rintro m σ' H3 ⟨cur, c, hc, rfl, e3, hend⟩
    have hd3 := e3 _ _ hd
    have hs : (valV kvs (Sum.inr (S cur))).isSome = (look ls cur).isSome := by
      rcases hL.look cur with ⟨h1, h2⟩ | ⟨e, v, h1, h2, _⟩
      · rw [h1, h2]
        rfl
      · rw [h1, h2]
        rfl
    refine ⟨(look ls cur).isSome && decide ((c : Int) < 9), et_and (et_is (et_din (k := cur) (ev_var rfl) (ev_var rfl) hd3) hs) fun _ => by walk_at "ev", fun hb H4 e4 => ?_, fun hb H4 e4 => ?_⟩
    · rw [Bool.and_eq_true, decide_eq_true_eq] at hb
      obtain ⟨t, ht⟩ := Option.isSome_iff_exists.mp hb.1
      rcases hL.look cur with ⟨h1, h2⟩ | ⟨e, v, h1, h2, h3⟩
      · rw [ht] at h1
        cases h1
      · rw [ht] at h1
        cases Option.some.inj h1
        refine ⟨fun σ' H' => c < 9 ∧ σ' = [some (.ref d), some (.str (S k)), some (.str (S t)), some (.int ((c : Int) + 1))] ∧ Ex H H', fun σ2 H5 ⟨z1, z2, z3⟩ => ⟨m - 1, by omega, t, c + 1, by omega, by rw [z2]; rfl, z3, ?_⟩, ?_⟩
        · rw [← hend, show 9 - c = (9 - (c + 1)) + 1 by omega, end_some ht]
        · refine q_asg (v := .str (S t)) (by rw [← (show v = V.str (S t) from h3)]; exact ev_dget (k := cur) (ev_var rfl) (ev_var rfl) (e4 _ _ hd3) h2) fun H5 e5 => ?_
          exact s_aug (a := (c : Int)) (b := 1) rfl ev_c fun H6 e6 => ⟨by omega, rfl, ((e3.trans e4).trans e5).trans e6⟩
    · refine q_when (b := decide ((c : Int) = 9)) (by walk_at "ev") (fun h9 H5 e5 => ?_) (fun h9 H5 e5 => ?_)
      · refine s_ret ev_c fun H6 e6 => ?_
        have z : Q (endV (look ls) 9 k) H6 := q H6 (((e3.trans e4).trans e5).trans e6)
        have c9 : c = 9 := by
          have := of_decide_eq_true h9
          omega
        subst c9
        rw [← hend] at z
        exact z
      · refine s_ret (ev_var rfl) fun H6 e6 => ?_
        have z : Q (endV (look ls) 9 k) H6 := q H6 (((e3.trans e4).trans e5).trans e6)
        have c9 : c < 9 := by
          have := of_decide_eq_false h9
          omega
        have hn : look ls cur = none := by
          cases h : look ls cur with
          | none => rfl
          | some t =>
            rw [h, decide_eq_true (show (c : Int) < 9 by omega)] at hb
            cases hb
        rw [← hend, show 9 - c = (8 - c) + 1 by omega, end_none hn] at z
        exact z
/-! ### the law -/
def Gd (k : List Nat) : Prop := pathOk k = true ∧ k.length ≤ 30000
theorem gd_n : ∀ k : Nat, k < 30 → Gd ([110] ++ TL.numL k) := by
  have h : ∀ k : Nat, k < 30 → (pathOk ([110] ++ TL.numL k) && decide (([110] ++ TL.numL k).length ≤ 30000)) = true := by decide +kernel
  intro k hk
  have z := h k hk
  rw [Bool.and_eq_true, decide_eq_true_eq] at z
  exact z
theorem gd_c : ∀ k : Nat, k < 30 → Gd ([99] ++ TL.numL k) := by
  have h : ∀ k : Nat, k < 30 → (pathOk ([99] ++ TL.numL k) && decide (([99] ++ TL.numL k).length ≤ 30000)) = true := by decide +kernel
  intro k hk
  have z := h k hk
  rw [Bool.and_eq_true, decide_eq_true_eq] at z
  exact z
def GdL (ls : List (List Nat × List Nat)) : Prop := ∀ x ∈ ls, Gd x.1 ∧ Gd x.2
theorem GdL.put {ls : List (List Nat × List Nat)} {k t : List Nat} (h : GdL ls) (hk : Gd k) (ht : Gd t) : GdL (put ls k t) := fun x hx => by
  rcases put_mem hx with z | z
  · exact h x z
  · rw [z]
    exact ⟨hk, ht⟩
theorem ev_name {σ : L2.St} {H : Hp} {te : TE} {s : Str} {n : Nat} {c : Nat} (hs : s.cps.toList = [c]) (hn : n < 1000) (h : Ev te σ H (.int (n : Int))) : Ev (tOp rAddS (tC (.str s)) (tCB rStrInt (tCons te tNil))) σ H (.str (S ([c] ++ TL.numL n))) := by
  have hl : (TL.numL n).length ≤ 3 := by
    have z : ∀ m < 1000, (TL.numL m).length ≤ 3 := by decide +kernel
    exact z n hn
  exact ev_op (ev_cS hs) (ev_strInt h hn) (rv_addS (by rw [List.length_singleton]; omega))
theorem endV_cases (g : List Nat → Option (List Nat)) : ∀ n k, endV g n k = .non ∨ ∃ t, endV g n k = .str (S t)
  | 0, _ => .inl rfl
  | n + 1, k => by
    cases h : g k with
    | none => exact .inr ⟨k, end_none h⟩
    | some t =>
      rw [end_some h]
      exact endV_cases g n t
theorem step_put {es : List (List Nat × Ent)} {k j : List Nat} {e : Ent} : step (put es k e) j = if j = k then (match e with | .link t => some t | _ => none) else step es j := by
  unfold step
  rw [look_put]
  by_cases h : j = k
  · rw [if_pos h, if_pos h]
    cases e <;> rfl
  · rw [if_neg h, if_neg h]
theorem val_of {ls : List (List Nat × List Nat)} {kvs : List (Key × V)} {k t : List Nat} (hL : Lies TxtV ls kvs) (h : look ls k = some t) : valV kvs (Sum.inr (S k)) = some (.str (S t)) := by
  rcases hL.look k with ⟨h1, h2⟩ | ⟨e, v, h1, h2, h3⟩
  · rw [h] at h1
    cases h1
  · rw [h] at h1
    cases Option.some.inj h1
    rw [h2, (show v = V.str (S t) from h3)]
theorem Paired.unmap {α β γ : Type} {F : α → γ → Prop} {u : β → γ} : ∀ {as : List α} {bs : List β}, Paired F as (bs.map u) → Paired (fun a b => F a (u b)) as bs
  | _, [], .nil => .nil
  | _, b :: bs, .cons h t => .cons h (Paired.unmap t)
def keyAt (ls : List (List Nat × List Nat)) (i : Nat) : List Nat := (ls[i]?.map (·.1)).getD []
/-- the links but that of one key -/
def lessL (ls : List (List Nat × List Nat)) (c : List Nat) : List (List Nat × List Nat) := ((List.range ls.length).filter fun i => !decide (keyAt ls i = c)).map fun i => (keyAt ls i, (look ls (keyAt ls i)).getD [])
theorem look_less (ls : List (List Nat × List Nat)) (c k : List Nat) : look (puts [] (lessL ls c)) k = if k = c then none else look ls k := by
  have hg : ∀ x ∈ lessL ls c, look ls x.1 = some x.2 := fun x hx => by
    obtain ⟨i, hi, rfl⟩ := List.mem_map.mp hx
    have hi2 := List.mem_range.mp (List.mem_filter.mp hi).1
    have hk : keyAt ls i = ls[i].1 := by
      unfold keyAt
      rw [List.getElem?_eq_getElem hi2]
      rfl
    obtain ⟨t, ht⟩ := Option.isSome_iff_exists.mp (mem_look (List.getElem_mem hi2))
    show look ls (keyAt ls i) = some ((look ls (keyAt ls i)).getD [])
    rw [hk, ht]
    rfl
  rw [look_puts (g := look ls) _ _ hg]
  by_cases h : k = c
  · rw [if_pos h, if_neg]
    · rfl
    · intro hm
      obtain ⟨x, hx, rfl⟩ := List.mem_map.mp hm
      obtain ⟨i, hi, rfl⟩ := List.mem_map.mp hx
      have z := (List.mem_filter.mp hi).2
      rw [decide_eq_true (show keyAt ls i = c from h)] at z
      cases z
  · rw [if_neg h]
    cases h2 : look ls k with
    | none =>
      split <;> rfl
    | some t =>
      obtain ⟨i, hi, he⟩ := List.mem_iff_getElem.mp (look_mem h2)
      have hk : keyAt ls i = k := by
        unfold keyAt
        rw [List.getElem?_eq_getElem hi, he]
        rfl
      rw [if_pos]
      refine List.mem_map.mpr ⟨(keyAt ls i, (look ls (keyAt ls i)).getD []), List.mem_map.mpr ⟨i, List.mem_filter.mpr ⟨List.mem_range.mpr hi, ?_⟩, rfl⟩, hk⟩
      rw [hk, decide_eq_false h]
      rfl
theorem less_len (ls : List (List Nat × List Nat)) (c : List Nat) : (puts [] (lessL ls c)).length ≤ ls.length := by
  have h1 := puts_len (lessL ls c) []
  have h2 : (lessL ls c).length ≤ ls.length := by
    unfold lessL
    rw [List.length_map]
    have := List.length_filter_le (fun i => !decide (keyAt ls i = c)) (List.range ls.length)
    rw [List.length_range] at this
    exact this
  rw [List.length_nil] at h1
  omega
theorem ev_call {σ : L2.St} {H : Hp} {ta : TA} {sp : Sp} {E : XK} {vs : List V} {z : V} (h : EvA ta σ H vs) (hs : SpV sp vs H z) : Ev (tCall sp [] E ta) σ H z := fun H1 e Q q => h H1 e _ fun H2 e2 => by
  rw [List.append_nil]
  exact hs H2 (e.trans e2) Q (fun H3 e3 => q H3 (e2.trans e3)) E
theorem end_sp {K : PySem.W.Frag} {d : Addr} {H : Hp} {ls : List (List Nat × List Nat)} {kvs : List (Key × V)} {k : List Nat} (hd : H d = some (.dK kvs)) (hL : Lies TxtV ls kvs) : SpV (sp__law_end K) [.ref d, .str (S k)] H (endV (look ls) 9 k) := fun H1 e Q q E => ⟨d, ls, kvs, k, rfl, e _ _ hd, hL, fun H2 e2 => q H2 e2⟩
def sp_law (K : PySem.W.Frag) : Sp := sp2 (fun (a : Addr) (_ : List Int) => [.ref a]) (fun a ns H => SqL K H a (ns.map V.int) ∧ ns.length ≤ 63) (fun _ _ => .bl true)
/-- the tree and the law's links, together -/
structure Ln (K : PySem.W.Frag) (C : Addr) (H0 H : Hp) (p d dl : Addr) (es : List (List Nat × Ent)) (ls : List (List Nat × List Nat)) : Prop where
  ex : Ex H0 H
  tr : Tr C H p d es
  li : ∃ kvs, H dl = some (.dK kvs) ∧ Lies TxtV ls kvs
theorem Ln.mono {C : Addr} {H0 H H1 : Hp} {p d dl : Addr} {es : List (List Nat × Ent)} {ls : List (List Nat × List Nat)} (L : Ln K C H0 H p d dl es ls) (e : Ex H H1) : Ln K C H0 H1 p d dl es ls := by
  obtain ⟨h1, h2, kvs, h3, h4⟩ := L
  exact ⟨h1.trans e, h2.mono e, kvs, e _ _ h3, h4⟩
theorem ok_law {f C : Addr} {fd : FuncData} (F : Fun K "law" "law" s_law f fd) (T : Tx mg) (TC : Tc K C) (C__law_cell : Kn.Cl P w K mg base 1 "_law_cell" (sp__law_cell K)) (C__law_end : Kn.Cl P w K mg base 1 "_law_end" (sp__law_end K)) (M_Tree : Kn.Mkr P w K mg base 1 "Tree" C (sp_Tree___init__ C K)) (M_Tree_link : Kn.Mt P w K mg base 3 C "link" (sp_Tree_link C K)) (M_Tree_write : Kn.Mt P w K mg base 4 C "write" (sp_Tree_write C K)) (M_Tree_target : Kn.Mt P w K mg base 2 C "target" (sp_Tree_target C K)) (M_Tree_resolve : Kn.Mt P w K mg base 3 C "resolve" (sp_Tree_resolve C K)) : FnOk P w K mg base CX0 5 f fd ["script"] (sp_law K) := by
  refine F.ok sc_law (fun vs H Q E h => ?_) (fun cdv A outer s H vs Q E hr h => ?_)
  · obtain ⟨a, ns, rfl, _⟩ := h
    rfl
  · obtain ⟨a, ns, rfl, ⟨hS, hl⟩, q⟩ := h
    refine ⟨_, (pss_cons (ps_set (i := 1) sc_law.nd rfl (Or.inl rfl) (Kn.pe_mkr0 M_Tree hr (by decide) (by rfl)))
      (pss_cons (ps_set (i := 2) sc_law.nd rfl (Or.inr rfl) pe_dnewK)
      (pss_cons (ps_set (i := 3) sc_law.nd rfl (Or.inl rfl) (pe_callB Kn.cr_abs (by rfl) T.b_abs (by decide +kernel) (pa_cons (Kn.pe_cl C__law_cell hr (by decide) (by rfl) (pa_cons (pv 0) (pa_cons pe_int pa_nil))) pa_nil)))
      (pss_cons (ps_for PassesOwn.never rfl (pi_range1 rfl T.b_range (pa_cons pe_int pa_nil)) (pg_name (i := 4) sc_law.nd rfl (Or.inl rfl)) (pss_cons (ps_set (i := 5) sc_law.nd rfl (Or.inl rfl) (pe_callB Kn.cr_abs (by rfl) T.b_abs (by decide +kernel) (pa_cons (Kn.pe_cl C__law_cell hr (by decide) (by rfl) (pa_cons (pv 0) (pa_cons (pe_op op_add (pv 4) pe_int) pa_nil))) pa_nil)))
      (pss_one (ps_if (pt_cmpR op_ne (pe_op op_mod (pv 5) pe_int) pe_int (nomark _)) (pss_one (ps_dput (hu_of hr) (pv 2) (pe_op Kn.op_addS pe_str (pe_callTy Kn.cr_strInt (by rfl) T.b_str (by decide +kernel) (pa_cons (pv 4) pa_nil))) (pe_op Kn.op_addS pe_str (pe_callTy Kn.cr_strInt (by rfl) T.b_str (by decide +kernel) (pa_cons (pe_op op_mod (pe_op op_fdiv (pv 5) pe_int) pe_int) pa_nil))) rfl)) pss_nil))))
      (pss_cons (ps_if (pt_cmpR op_eq (pe_op op_mod (pv 3) pe_int) pe_int (nomark _)) (pss_one (ps_for PassesOwn.never rfl (pi_range1 rfl T.b_range (pa_cons (pe_op op_add pe_int (pe_op op_mod (pe_op op_fdiv (pv 3) pe_int) pe_int)) pa_nil)) (pg_name (i := 4) sc_law.nd rfl (Or.inl rfl)) (pss_one (ps_dput (hu_of hr) (pv 2) (pe_op Kn.op_addS pe_str (pe_callTy Kn.cr_strInt (by rfl) T.b_str (by decide +kernel) (pa_cons (pv 4) pa_nil))) (pe_op Kn.op_addS pe_str (pe_callTy Kn.cr_strInt (by rfl) T.b_str (by decide +kernel) (pa_cons (pe_op op_add (pv 4) pe_int) pa_nil))) rfl)))) pss_nil)
      (pss_cons (ps_for PassesOwn.never rfl (pi_list (pe_callB (Kn.cr_sortD rfl) (by rfl) T.b_sorted (by decide +kernel) (pa_cons (pv 2) pa_nil))) (pg_name (i := 6) sc_law.nd rfl (Or.inl rfl)) (pss_one (ps_expr (Kn.pe_mt M_Tree_link hr (by decide) (pv 1) (pa_cons (pv 6) (pa_cons (pe_dget (hu_of hr) (pv 2) (pv 6) (fun _ _ => rfl)) pa_nil))))))
      (pss_cons (ps_if (pt_cmpR op_eq (pe_op op_mod (pe_op op_fdiv (pv 3) pe_int) pe_int) pe_int (nomark _)) (pss_cons (ps_expr (Kn.pe_mt M_Tree_write hr (by decide) (pv 1) (pa_cons pe_str (pa_cons pe_str (pa_cons pe_str pa_nil)))))
      (pss_one (ps_set (i := 2) sc_law.nd rfl (Or.inr rfl) (pe_callTy (Kn.cr_dictP rfl) (by rfl) T.b_dict (by decide +kernel) (pa_cons (pe_lock (pe_lc (own := [("path", 6)]) rfl sc_law.nd (pi_keys (pv 2)) (blkOk_by (own := [("path", 6)]) (N := N_law) (sc := defScope s_law) (by decide +kernel)) (fun _ _ _ _ _ => pg_name (i := 6) sc_law.nd rfl (Or.inl rfl)) (fun _ _ _ _ _ => (pts_one (pt_cmpR op_ne (pv 6) pe_str (nomark _)))) (fun _ _ _ _ _ => (pe_tup (pa_cons (pv 6) (pa_cons (pe_dget (hu_of hr) (pv 2) (pv 6) (fun _ _ => rfl)) pa_nil)))))) pa_nil))))) pss_nil)
      (pss_cons (ps_for PassesOwn.never rfl (pi_range1 rfl T.b_range (pa_cons pe_int pa_nil)) (pg_name (i := 4) sc_law.nd rfl (Or.inl rfl)) (pss_one (ps_for PassesOwn.never rfl (pi_list (pe_lst (pa_cons (pe_op Kn.op_addS pe_str (pe_callTy Kn.cr_strInt (by rfl) T.b_str (by decide +kernel) (pa_cons (pv 4) pa_nil))) (pa_cons (pe_op Kn.op_addS pe_str (pe_callTy Kn.cr_strInt (by rfl) T.b_str (by decide +kernel) (pa_cons (pv 4) pa_nil))) pa_nil)))) (pg_name (i := 6) sc_law.nd rfl (Or.inl rfl)) (pss_cons (ps_set (i := 7) sc_law.nd rfl (Or.inl rfl) (Kn.pe_cl C__law_end hr (by decide) (by rfl) (pa_cons (pv 2) (pa_cons (pv 6) pa_nil))))
      (pss_cons (ps_set (i := 8) sc_law.nd rfl (Or.inl rfl) (Kn.pe_mt M_Tree_resolve hr (by decide) (pv 1) (pa_cons (pv 6) pa_nil)))
      (pss_cons (ps_if (PW.pt (pw_and (pt_cmpR op_isN1 (pv 7) pe_non (nomark _)) (pw_and1 (pt_cmpR op_notN1 (pv 8) pe_non (nomark _))))) (pss_one (ps_ret pe_bl)) pss_nil)
      (pss_one (ps_if (PW.pt (pw_and (pt_cmpR op_notN1 (pv 7) pe_non (nomark _)) (pw_and1 (PW.pt (pw_or (pt_not (pt_val (pe_callB Kn.cr_isi (by rfl) T.b_isinstance (by decide +kernel) (pa_cons (pv 8) (pa_cons (pe_bltn (v := .ty "str") (by rfl) T.b_str (by decide +kernel) rfl) pa_nil))))) (pw_or1 (pt_cmpR op_ne (pv 8) (pv 7) (nomark _)))))))) (pss_one (ps_ret pe_bl)) pss_nil))))))))
      (pss_cons (ps_for PassesOwn.never rfl (pi_list (pe_callB (Kn.cr_sortD rfl) (by rfl) T.b_sorted (by decide +kernel) (pa_cons (pv 2) pa_nil))) (pg_name (i := 6) sc_law.nd rfl (Or.inl rfl)) (pss_one (ps_if (pt_cmpR op_ne (Kn.pe_mt M_Tree_target hr (by decide) (pv 1) (pa_cons (pv 6) pa_nil)) (pe_dget (hu_of hr) (pv 2) (pv 6) (fun _ _ => rfl)) (nomark _)) (pss_one (ps_ret pe_bl)) pss_nil)))
      (pss_one (ps_ret pe_bl))))))))))), ?_⟩
    -- tree = Tree()
    intro p dx np ndx nex
    refine ⟨p, dx, rfl, upd_same, fun d H1 nd TR keep => ⟨rfl, ?_⟩⟩
    have nd1 : H d = none := upd_none (upd_none nd)
    have e1 : Ex H H1 := fun b o hb => keep b o (by rw [upd_ne (ne_of_none hb np), upd_ne (ne_of_none hb ndx)]; exact hb) (ne_of_none hb np)
    have hd1 : ∃ o, H1 d = some o := by
      obtain ⟨_, kvs, h, _⟩ := TR
      exact ⟨_, h⟩
    have hp1 : ∃ o, H1 p = some o := by
      obtain ⟨⟨dx, h⟩, _⟩ := TR
      exact ⟨_, h⟩
    -- links = {}
    refine q_dnew fun dl ndl => ?_
    have nel : d ≠ dl := by
      obtain ⟨o, h⟩ := hd1
      exact ne_of_none h ndl
    -- first
    refine q_asg (v := .int ((cellOf ns 0).natAbs : Int)) (ev_cb (ea_cons (ev_c3 (a := a) (b := ns) (c := 0) (by walk_at "ev") fun H2 e2 => ex_l ((e1.trans (Ex.new ndl)).trans e2) hS) ea_nil) rc_abs) fun H2 e2 => ?_
    have L2 : Ex H1 H2 ∧ H2 dl = some (.dK []) := ⟨(Ex.new ndl).trans e2, e2 _ _ upd_same⟩
    generalize (cellOf ns 0).natAbs = f0
    -- the loop over n
    refine q_forR1 (n := 14) (ea_cons ev_c ea_nil) ⟨by decide, by decide⟩ (fun i σ' H' => ∃ (ls : List (List Nat × List Nat)) (kvs : List (Key × V)) (x y : Option V), σ' = [some (.ref a), some (.ref p), some (.ref dl), some (.int (f0 : Int)), x, y, none, none, none] ∧ Ex H1 H' ∧ H' dl = some (.dK kvs) ∧ Lies TxtV ls kvs ∧ GdL ls ∧ ls.length ≤ i) (fun H3 e3 => ⟨[], [], none, none, rfl, L2.1.trans e3, e3 _ _ L2.2, .nil, (fun x hx => nomatch hx), Nat.le_refl _⟩) ?_ ?_
    · rintro i σ' H3 hi ⟨ls, kvs, x, y, rfl, e3, hd, hL, hG, hn⟩
      refine q_asg (v := .int ((cellOf ns (i + 1)).natAbs : Int)) (ev_cb (ea_cons (ev_c3 (a := a) (b := ns) (c := i + 1) (ea_cons (ev_var rfl) (ea_cons (ev_is (ev_op (ev_var rfl) ev_c rv_I0) (by rw [Int.natCast_add]; rfl)) ea_nil)) fun H4 e4 => ex_l ((e1.trans e3).trans e4) hS) ea_nil) rc_abs) fun H4 e4 => ?_
      generalize (cellOf ns (i + 1)).natAbs = c
      refine s_when (b := !decide ((c : Int) % 3 = 0)) (by walk_at "ev") (fun _ H5 e5 => ?_) (fun _ H5 e5 => ⟨ls, kvs, _, _, rfl, (e3.trans e4).trans e5, e5 _ _ (e4 _ _ hd), hL, hG, by omega⟩)
      have hc : c / 3 % 15 < 15 := Nat.mod_lt _ (by decide)
      refine s_dput (k := [110] ++ TL.numL i) (v := .str (S ([110] ++ TL.numL (c / 3 % 15)))) (ev_name rfl (by omega) (ev_is (ev_op (ev_op (ev_var rfl) ev_c (rv_fdiv ⟨by decide, by decide⟩)) ev_c (rv_mod (by decide))) (by rw [Int.natCast_emod, Int.natCast_ediv]; rfl))) (fun H6 e6 => ev_var rfl) (fun H6 e6 => ev_name rfl (by omega) (ev_var rfl)) (e5 _ _ (e4 _ _ hd)) (by have := hL.len; omega) fun H6 e6 => ?_
      exact ⟨put ls _ _, _, _, _, rfl, Ex.mut (((e3.trans e4).trans e5).trans e6) ndl, upd_same, hL.put rfl, hG.put (gd_n _ (by omega)) (gd_n _ (by omega)), by have := put_len ls ([110] ++ TL.numL i) ([110] ++ TL.numL (c / 3 % 15)); omega⟩
    rintro σ' H3 ⟨ls, kvs, x4, x5, rfl, e3, hd3, hL, hG, hn⟩
    -- a chain
    refine q_ifM (b := decide ((f0 : Int) % 2 = 1)) (fun σ' H' => ∃ (ls : List (List Nat × List Nat)) (kvs : List (Key × V)) (x y : Option V), σ' = [some (.ref a), some (.ref p), some (.ref dl), some (.int (f0 : Int)), x, y, none, none, none] ∧ Ex H1 H' ∧ H' dl = some (.dK kvs) ∧ Lies TxtV ls kvs ∧ GdL ls ∧ ls.length ≤ 26) (by walk_at "ev") (fun _ H4 e4 N hN => ?_) (fun _ H4 e4 N hN => s_next (hN _ _ ⟨ls, kvs, _, _, rfl, e3.trans e4, e4 _ _ hd3, hL, hG, by have : ls.length ≤ 14 := hn; omega⟩)) ?_
    · refine s_forR1 (n := 6 + (f0 : Int) / 2 % 7) (by walk_at "ev") ⟨by omega, by omega⟩ (fun i σ' H' => ∃ (ls : List (List Nat × List Nat)) (kvs : List (Key × V)) (x y : Option V), σ' = [some (.ref a), some (.ref p), some (.ref dl), some (.int (f0 : Int)), x, y, none, none, none] ∧ Ex H1 H' ∧ H' dl = some (.dK kvs) ∧ Lies TxtV ls kvs ∧ GdL ls ∧ ls.length ≤ 14 + i) (fun H5 e5 => ⟨ls, kvs, _, _, rfl, (e3.trans e4).trans e5, e5 _ _ (e4 _ _ hd3), hL, hG, hn⟩) ?_ ?_
      · rintro i σ' H5 hi ⟨ls, kvs, x, y, rfl, e5, hd, hL, hG, hn⟩
        have hi2 : i < 13 := by omega
        refine s_dput (k := [99] ++ TL.numL i) (v := .str (S ([99] ++ TL.numL (i + 1)))) (ev_name rfl (by omega) (ev_is (ev_op (ev_var rfl) ev_c rv_I0) (by rw [Int.natCast_add]; rfl))) (fun H6 e6 => ev_var rfl) (fun H6 e6 => ev_name rfl (by omega) (ev_var rfl)) hd (by have := hL.len; omega) fun H6 e6 => ?_
        exact ⟨put ls _ _, _, _, _, rfl, Ex.mut (e5.trans e6) ndl, upd_same, hL.put rfl, hG.put (gd_c _ (by omega)) (gd_c _ (by omega)), by have := put_len ls ([99] ++ TL.numL i) ([99] ++ TL.numL (i + 1)); omega⟩
      · rintro σ' H5 ⟨ls, kvs, x, y, h1, h2, h3, h4, h5, h6⟩
        exact hN _ _ ⟨ls, kvs, x, y, h1, h2, h3, h4, h5, by omega⟩
    clear hL hG hn e3 hd3
    rintro σ' H4 ⟨ls, kvs, x4, x5, rfl, e4, hd4, hL, hG, hn⟩
    -- every link goes into the tree
    have hks : kvs.map (·.1) = ((ls.map (·.1)).map S).map Sum.inr := by
      have e : (ls.map (·.1)).map S = ls.map fun x => S x.1 := List.map_map
      rw [hL.keys, e]
    have hkey : ∀ l ∈ ls.map (·.1), ∃ t, look ls l = some t ∧ Gd l ∧ Gd t := fun l hl => by
      obtain ⟨x, hx, rfl⟩ := List.mem_map.mp hl
      obtain ⟨t, ht⟩ := Option.isSome_iff_exists.mp (mem_look hx)
      exact ⟨t, ht, (hG x hx).1, (hG _ (look_mem ht)).2⟩
    refine q_forSD (ks := ls.map (·.1)) (d := dl) (ev_var rfl) hd4 hks (by rw [List.length_map]; omega) (fun ys pl i σ' H' => ∃ (es : List (List Nat × Ent)) (x y z : Option V), σ' = [some (.ref a), some (.ref p), some (.ref dl), some (.int (f0 : Int)), x, y, z, none, none] ∧ Ex H H' ∧ H' dl = some (.dK kvs) ∧ H' pl = some (.lst (ys.map fun l => V.str (S l))) ∧ Tr C H' p d es ∧ es.length ≤ i ∧ ∀ k, step es k = if k ∈ ys.take i then look ls k else none) (fun ys pl H5 hperm np e5 hl5 => ⟨[], _, _, _, rfl, (e1.trans e4).trans e5, e5 _ _ hd4, hl5, (TR.mono e4).mono e5, Nat.le_refl _, fun k => by rw [List.take_zero, if_neg (by simp)]; rfl⟩) (fun ys pl i σ' H' ⟨_, _, _, _, _, _, _, h, _⟩ => sq_of h) ?_ ?_
    · rintro ys pl i l σ' H5 hperm hi ⟨es, x, y, z, rfl, e5, hd5, hl5, T5, hn5, hst⟩
      obtain ⟨t, ht, gk, gt⟩ := hkey l (hperm.mem_iff.mp (List.mem_of_getElem? hi))
      obtain ⟨⟨dx5, hp5⟩, kv5, hd5', _⟩ := id T5
      have hi26 : i < 26 := by
        have h1 := (List.getElem?_eq_some_iff.mp hi).1
        have h2 := hperm.length_eq
        rw [List.length_map] at h2
        omega
      refine s_meth (ev_var rfl) hp5 (flds_no d (by decide +kernel)) (ea_cons (ev_var rfl) (ea_cons (ev_dget (k := l) (ev_var rfl) (ev_var rfl) hd5 (val_of hL ht)) ea_nil)) fun H6 e6 => ?_
      refine ⟨p, d, es, l, t, rfl, T5.mono e6, by omega, ⟨gk.2, gt.2⟩, gk.1, gt.1, room_of (by omega) l, fun H7 T7 keep7 => ?_⟩
      refine ⟨_, _, _, _, rfl, fun b o hb => keep7 b o (e6 _ _ (e5 _ _ hb)) (ne_of_none hb nd1), keep7 _ _ (e6 _ _ hd5) nel.symm, keep7 _ _ (e6 _ _ hl5) (ne_of hl5 hd5' (by intro z; cases z)), T7, by have := put_len es l (.link t); omega, fun k => ?_⟩
      rw [step_put, hst k, List.take_add_one, hi]
      by_cases hk : k = l
      · rw [if_pos hk, if_pos (by rw [hk]; simp), hk, ht]
      · rw [if_neg hk]
        by_cases hm : k ∈ ys.take i
        · rw [if_pos hm, if_pos (List.mem_append.mpr (.inl hm))]
        · rw [if_neg hm, if_neg]
          intro z
          rcases List.mem_append.mp z with z | z
          · exact hm z
          · exact hk (List.mem_singleton.mp z)
    rintro ys pl σ' H5 hperm ⟨es, x4, x5, x6, rfl, e5, hd5, -, T5, hn5, hst⟩
    have hst' : ∀ k, step es k = look ls k := fun k => by
      rw [hst k, List.take_length]
      by_cases h : k ∈ ys
      · rw [if_pos h]
      · rw [if_neg h]
        cases h2 : look ls k with
        | none => rfl
        | some t => exact absurd (hperm.mem_iff.mpr (List.mem_map.mpr ⟨_, look_mem h2, rfl⟩)) h
    have hes : es.length ≤ 26 := by
      have h2 := hperm.length_eq
      rw [List.length_map] at h2
      omega
    -- an entry of a person at the end of the chain
    refine q_ifM (b := decide ((f0 : Int) / 14 % 2 = 1)) (fun σ' H' => ∃ (es : List (List Nat × Ent)) (ls : List (List Nat × List Nat)) (dl : Addr) (kvs : List (Key × V)) (x y z : Option V), σ' = [some (.ref a), some (.ref p), some (.ref dl), some (.int (f0 : Int)), x, y, z, none, none] ∧ Ex H H' ∧ Tr C H' p d es ∧ H' dl = some (.dK kvs) ∧ Lies TxtV ls kvs ∧ ls.length ≤ 26 ∧ ∀ k, step es k = look ls k) (by walk_at "ev") (fun _ H6 e6 N hN => ?_) (fun _ H6 e6 N hN => s_next (hN _ _ ⟨es, ls, dl, kvs, _, _, _, rfl, e5.trans e6, T5.mono e6, e6 _ _ hd5, hL, hn, hst'⟩)) ?_
    · have T6 := T5.mono e6
      obtain ⟨⟨dx6, hp6⟩, kv6, hd6', _⟩ := id T6
      refine q_meth (ev_var rfl) hp6 (flds_no d (by decide +kernel)) (ea_cons (ev_cS (l := [99, 57]) rfl) (ea_cons (ev_cS (l := [120]) rfl) (ea_cons (ev_cS (l := ePerson) rfl) ea_nil))) fun H7 e7 => ?_
      refine ⟨p, d, es, [99, 57], [120], ePerson, rfl, T6.mono e7, by omega, ⟨by decide, by decide⟩, by decide +kernel, by decide +kernel, fun _ => room_of (by omega) _, fun H8 T8 keep8 => ?_⟩
      have e8 : Ex H H8 := fun b o hb => keep8 b o (e7 _ _ (e6 _ _ (e5 _ _ hb))) (ne_of_none hb nd1)
      have hd8 := keep8 _ _ (e7 _ _ (e6 _ _ hd5)) nel.symm
      have hlen := hL.len
      show tLockE _ _ _ _
      refine ev_lcKeysT (d := dl) (kvs := kvs) (j := 6) (fun i => !decide (keyAt ls i = [99, 57])) (fun i => [.str (S (keyAt ls i)), .str (S ((look ls (keyAt ls i)).getD []))]) (fun H9 => ev_var rfl) hd8 (by omega) (fun _ => rfl) (fun i kv H9 hk => ?_) (fun i kv H9 od hf hk _ => ?_) H8 (Ex.refl _) _ fun pl H9 ps npl e9 hl9 hps => ?_
      · obtain ⟨x, hx, hx1, _⟩ := hL.get i kv hk
        have hkx : keyAt ls i = x.1 := by
          unfold keyAt
          rw [hx]
          rfl
        rw [hx1, hkx]
        exact et_test (ev_op (ev_var rfl) (ev_cS (l := [99, 57]) rfl) rv_neS)
      · obtain ⟨x, hx, hx1, _⟩ := hL.get i kv hk
        have hkx : keyAt ls i = x.1 := by
          unfold keyAt
          rw [hx]
          rfl
        obtain ⟨t, ht⟩ := Option.isSome_iff_exists.mp (mem_look (List.mem_of_getElem? hx))
        rw [hx1, hkx, ht]
        exact eu_tup (ea_cons (ev_var rfl) (ea_cons (ev_dgetF (k := x.1) (ev_var rfl) (ev_var rfl) hf (val_of hL ht)) ea_nil)) (by show 2 ≤ 100000; decide)
      · have hps2 : Paired (fun q (kv : Key × V) => SqT K H9 q [kV kv.1, kv.2]) ps (((List.range kvs.length).filter fun i => !decide (keyAt ls i = [99, 57])).map fun i => ((Sum.inr (S (keyAt ls i)), V.str (S ((look ls (keyAt ls i)).getD []))) : Key × V)) := by
          refine Paired.mapP (Paired.unmap (F := fun q v => H9 q = some (.tup v)) (u := fun kv : Key × V => [kV kv.1, kv.2]) ?_) fun _ _ z => st_of z
          rw [List.map_map]
          exact hps
        refine ⟨pl, ps, _, rfl, sq_of hl9, hps2, fun q9 hq9 => ?_⟩
        refine hN _ _ ⟨_, puts [] (lessL ls [99, 57]), q9, _, _, _, _, rfl, (e8.trans e9).trans (Ex.new hq9), (T8.mono e9).mono (Ex.new hq9), upd_same, Lies.puts (L := lessL ls [99, 57]) (acc := []) ?_ .nil, Nat.le_trans (less_len _ _) hn, fun k => ?_⟩
        · unfold lessL
          rw [hlen]
          exact Paired.maps _ fun i _ => ⟨rfl, rfl⟩
        · rw [look_less, step_put]
          by_cases hk : k = [99, 57]
          · rw [if_pos hk, if_pos hk]
          · rw [if_neg hk, if_neg hk, hst' k]
    clear hkey hks hst hst' hn hL hd5 hes T5
    rintro σ' H6 ⟨es2, ls2, dl2, kvs2, x, y, z, rfl, e6, T6, hd6, hL, hn, hst⟩
    replace q : ∀ H7, Ex H6 H7 → Q (.bl true) H7 := fun H7 e => q H7 (e6.trans e)
    -- resolve
    refine q_forR1 (n := 14) (ea_cons ev_c ea_nil) ⟨by decide, by decide⟩ (fun i σ' H' => ∃ (x4 x5 x6 x7 x8 : Option V), σ' = [some (.ref a), some (.ref p), some (.ref dl2), some (.int (f0 : Int)), x4, x5, x6, x7, x8] ∧ Ex H6 H') (fun H7 e7 => ⟨_, _, _, _, _, rfl, e7⟩) ?_ ?_
    · rintro i σ' H7 hi ⟨x4, x5, x6, x7, x8, rfl, e7⟩
      refine s_forNL (xs := [.str (S ([110] ++ TL.numL i)), .str (S ([99] ++ TL.numL i))]) (el_lst (ea_cons (ev_name rfl (by omega) (ev_var rfl)) (ea_cons (ev_name rfl (by omega) (ev_var rfl)) ea_nil)) (by simp)) (fun pn j σ' H' => ∃ (x4 x5 x6 x7 x8 : Option V), σ' = [some (.ref a), some (.ref p), some (.ref dl2), some (.int (f0 : Int)), x4, x5, x6, x7, x8] ∧ Ex H6 H' ∧ H' pn = some (.lst [.str (S ([110] ++ TL.numL i)), .str (S ([99] ++ TL.numL i))])) (fun pn H8 np8 e8 hp8 => ⟨_, _, _, _, _, rfl, e7.trans e8, hp8⟩) (fun pn j σ' H' _ ⟨_, _, _, _, _, _, _, h⟩ => sq_of h) ?_ ?_
      · rintro pn j xv σ' H8 hx ⟨x4, x5, x6, x7, x8, rfl, e8, hp8⟩
        obtain ⟨k, rfl⟩ : ∃ k, xv = .str (S k) := by
          rcases List.mem_cons.mp (List.mem_of_getElem? hx) with z | z
          · exact ⟨_, z⟩
          · exact ⟨_, List.mem_singleton.mp z⟩
        obtain ⟨v, hv⟩ : ∃ v, endV (look ls2) 9 k = v := ⟨_, rfl⟩
        have hv2 := endV_cases (look ls2) 9 k
        have hv3 := endV_congr hst 9 k
        rw [hv] at hv2 hv3
        have T8 := T6.mono e8
        obtain ⟨⟨dx8, hpp⟩, _⟩ := id T8
        show tSeq _ _ _ _ _
        refine q_asg (v := v) (ev_is (ev_call (ea_cons (ev_var rfl) (ea_cons (ev_var rfl) ea_nil)) (end_sp (e8 _ _ hd6) hL)) hv) fun H9 e9 => ?_
        refine q_asg (v := v) (ev_is (ev_meth (ev_var rfl) (e9 _ _ hpp) (flds_no d (by decide +kernel)) (ea_cons (ev_var rfl) ea_nil) (resolve_sp (T8.mono e9))) hv3) fun H10 e10 => ?_
        have fin : ∀ H11, Ex H10 H11 → H11 pn = some (.lst [.str (S ([110] ++ TL.numL i)), .str (S ([99] ++ TL.numL i))]) ∧ Ex H6 H11 := fun H11 e11 => ⟨e11 _ _ (e10 _ _ (e9 _ _ hp8)), ((e8.trans e9).trans e10).trans e11⟩
        rcases hv2 with rfl | ⟨t, rfl⟩
        · refine q_when (b := false) (et_is (et_and (a := true) (b := false) (et_is (et_isN (ev_var rfl)) rfl) fun _ => et_is (et_notN (ev_var rfl)) rfl) rfl) (fun z => nomatch z) fun _ H11 e11 => ?_
          refine s_when (b := false) (et_is (et_and (a := false) (b := false) (et_is (et_notN (ev_var rfl)) rfl) fun z => nomatch z) rfl) (fun z => nomatch z) fun _ H12 e12 => ?_
          exact ⟨_, _, _, _, _, rfl, (fin _ (e11.trans e12)).2, (fin _ (e11.trans e12)).1⟩
        · refine q_when (b := false) (et_is (et_and (a := false) (b := false) (et_is (et_isN (ev_var rfl)) (by simp)) fun z => nomatch z) rfl) (fun z => nomatch z) fun _ H11 e11 => ?_
          refine s_when (b := false) (et_is (et_and (a := true) (b := false) (et_is (et_notN (ev_var rfl)) (by simp)) fun _ => et_is (et_or (a := false) (b := false) (et_not (a := true) (et_B (ev_isiS (ev_var rfl)))) fun _ => et_is (et_test (ev_op (ev_var rfl) (ev_var rfl) rv_neS)) (by simp)) rfl) rfl) (fun z => nomatch z) fun _ H12 e12 => ?_
          exact ⟨_, _, _, _, _, rfl, (fin _ (e11.trans e12)).2, (fin _ (e11.trans e12)).1⟩
      · rintro pn σ' H8 ⟨x4, x5, x6, x7, x8, rfl, e8, -⟩
        exact ⟨_, _, _, _, _, rfl, e8⟩
    rintro σ' H7 ⟨x4, x5, x6, x7, x8, rfl, e7⟩
    -- target
    have hks2 : kvs2.map (·.1) = ((ls2.map (·.1)).map S).map Sum.inr := by
      have e : (ls2.map (·.1)).map S = ls2.map fun x => S x.1 := List.map_map
      rw [hL.keys, e]
    refine q_forSD (ks := ls2.map (·.1)) (d := dl2) (ev_var rfl) (e7 _ _ hd6) hks2 (by rw [List.length_map]; omega) (fun ys pl i σ' H' => ∃ (x4 x5 x6 x7 x8 : Option V), σ' = [some (.ref a), some (.ref p), some (.ref dl2), some (.int (f0 : Int)), x4, x5, x6, x7, x8] ∧ Ex H6 H' ∧ H' pl = some (.lst (ys.map fun l => V.str (S l)))) (fun ys pl H8 hperm np e8 hl8 => ⟨_, _, _, _, _, rfl, e7.trans e8, hl8⟩) (fun ys pl i σ' H' ⟨_, _, _, _, _, _, _, h⟩ => sq_of h) ?_ ?_
    · rintro ys pl i l σ' H8 hperm hi ⟨x4, x5, x6, x7, x8, rfl, e8, hl8⟩
      obtain ⟨x, hx, hxl⟩ := List.mem_map.mp (hperm.mem_iff.mp (List.mem_of_getElem? hi))
      obtain ⟨t, ht⟩ := Option.isSome_iff_exists.mp (mem_look hx)
      rw [hxl] at ht
      have T8 := T6.mono e8
      obtain ⟨⟨dx8, hpp⟩, _⟩ := id T8
      refine s_when (b := false) (et_is (et_test (ev_op (ev_is (ev_meth (ev_var rfl) hpp (flds_no d (by decide +kernel)) (ea_cons (ev_var rfl) ea_nil) (target_sp T8)) (by rw [hst l, ht]; rfl)) (ev_dget (k := l) (ev_var rfl) (ev_var rfl) (e8 _ _ hd6) (val_of hL ht)) rv_neS)) (by simp)) (fun z => nomatch z) fun _ H9 e9 => ⟨_, _, _, _, _, rfl, e8.trans e9, e9 _ _ hl8⟩
    rintro ys pl σ' H8 hperm ⟨x4, x5, x6, x7, x8, rfl, e8, -⟩
    exact s_ret ev_c fun H9 e9 => q H9 (e8.trans e9)
end
theorem all_mk {l : PySem.W.OpenLaw} {w : World} {K : PySem.W.Frag} {h : Heap} {mg : Str → Option Value} {fa : Addr} (X : K.In h) (G : h.Ns mainGlobals mg) (hfa : mg "law" = some (.ref fa))
    {f0 f1 f2 f3 f4 f5 f6 f7 f8 f9 f10 f11 f12 f13 f14 f15 : Addr} {od0 od1 od2 od3 od4 od5 od6 od7 od8 od9 od10 od11 od12 od13 od14 od15 an0 an1 an2 an3 an4 an5 an6 an7 an8 an9 an10 an11 an12 an13 an14 an15 : Option Addr} {sl0 sl1 sl2 sl3 sl4 sl5 sl6 sl7 sl8 sl9 sl10 sl11 sl12 sl13 sl14 sl15 : Array (Option Value)} {oc0 oc1 oc2 oc3 oc4 oc5 oc6 oc7 oc8 oc9 oc10 oc11 oc12 oc13 oc14 oc15 kV0 kV1 kV2 kV3 kV4 kV5 kV6 kV7 kV8 kV9 kV10 kV11 kV12 kV13 kV14 kV15 dc0 dc1 dc2 dc3 dc4 dc5 dc6 dc7 dc8 dc9 dc10 dc11 dc12 dc13 dc14 dc15 pm0 pm1 pm2 pm3 pm4 pm5 pm6 pm7 pm8 pm9 pm10 pm11 pm12 pm13 pm14 pm15 cd0 cd1 cd2 cd3 cd4 cd5 cd6 cd7 cd8 cd9 cd10 cd11 cd12 cd13 cd14 cd15 ct0 ct1 ct2 ct3 ct4 ct5 ct6 ct7 ct8 ct9 ct10 ct11 ct12 ct13 ct14 ct15 : Value}
    {C : Addr}
    {tk_CONTENT_LENGTH tk_NEWLINE tk_SPACE tk_PERCENT tk_TILDE tk_MOST_NAMES tk_NAME_LENGTH tk_NAME_SIGNS tk_MOST_PERSONS_ENTRIES tk_MOST_LINKS : Tok}
    (aC : PySem.W.nsIn K mainGlobals "Tree" = some (some (.ref C)))
    (a0 : PySem.W.nsIn K mainGlobals "_is_code" = some (some (.ref f0)))
    (l0 : K.lookup f0 = some ⟨oc0, od0, .func (PySem.W.fnOf "_is_code" "_is_code" (defArgs s__is_code) (defBody s__is_code) (defScope s__is_code) .none kV0 dc0 pm0 an0 cd0 ct0), sl0⟩)
    (c0 : PySem.W.codeIn K cd0 "_is_code" = true)
    (k0 : PySem.W.keepIn K (.ref f0) = true)
    (a1 : PySem.W.nsIn K mainGlobals "is_text" = some (some (.ref f1)))
    (l1 : K.lookup f1 = some ⟨oc1, od1, .func (PySem.W.fnOf "is_text" "is_text" (defArgs s_is_text) (defBody s_is_text) (defScope s_is_text) .none kV1 dc1 pm1 an1 cd1 ct1), sl1⟩)
    (c1 : PySem.W.codeIn K cd1 "is_text" = true)
    (k1 : PySem.W.keepIn K (.ref f1) = true)
    (a2 : PySem.W.nsIn K mainGlobals "is_content" = some (some (.ref f2)))
    (l2 : K.lookup f2 = some ⟨oc2, od2, .func (PySem.W.fnOf "is_content" "is_content" (defArgs s_is_content) (defBody s_is_content) (defScope s_is_content) .none kV2 dc2 pm2 an2 cd2 ct2), sl2⟩)
    (c2 : PySem.W.codeIn K cd2 "is_content" = true)
    (k2 : PySem.W.keepIn K (.ref f2) = true)
    (a3 : PySem.W.nsIn K mainGlobals "_is_name" = some (some (.ref f3)))
    (l3 : K.lookup f3 = some ⟨oc3, od3, .func (PySem.W.fnOf "_is_name" "_is_name" (defArgs s__is_name) (defBody s__is_name) (defScope s__is_name) .none kV3 dc3 pm3 an3 cd3 ct3), sl3⟩)
    (c3 : PySem.W.codeIn K cd3 "_is_name" = true)
    (k3 : PySem.W.keepIn K (.ref f3) = true)
    (a4 : PySem.W.nsIn K mainGlobals "is_path" = some (some (.ref f4)))
    (l4 : K.lookup f4 = some ⟨oc4, od4, .func (PySem.W.fnOf "is_path" "is_path" (defArgs s_is_path) (defBody s_is_path) (defScope s_is_path) .none kV4 dc4 pm4 an4 cd4 ct4), sl4⟩)
    (c4 : PySem.W.codeIn K cd4 "is_path" = true)
    (k4 : PySem.W.keepIn K (.ref f4) = true)
    (a5 : PySem.W.nsIn K mainGlobals "_is_persons" = some (some (.ref f5)))
    (l5 : K.lookup f5 = some ⟨oc5, od5, .func (PySem.W.fnOf "_is_persons" "_is_persons" (defArgs s__is_persons) (defBody s__is_persons) (defScope s__is_persons) .none kV5 dc5 pm5 an5 cd5 ct5), sl5⟩)
    (c5 : PySem.W.codeIn K cd5 "_is_persons" = true)
    (k5 : PySem.W.keepIn K (.ref f5) = true)
    (a6 : PySem.W.findIn K (.ref C) "__init__" = some (some (.ref f6)))
    (i6 : PySem.W.isFn K (.ref f6) = true)
    (l6 : K.lookup f6 = some ⟨oc6, od6, .func (PySem.W.fnOf "__init__" "Tree.__init__" (defArgs s_Tree___init__) (defBody s_Tree___init__) (defScope s_Tree___init__) .none kV6 dc6 pm6 an6 cd6 ct6), sl6⟩)
    (c6 : PySem.W.codeIn K cd6 "Tree.__init__" = true)
    (k6 : PySem.W.keepIn K (.ref f6) = true)
    (a7 : PySem.W.findIn K (.ref C) "kind" = some (some (.ref f7)))
    (i7 : PySem.W.isFn K (.ref f7) = true)
    (l7 : K.lookup f7 = some ⟨oc7, od7, .func (PySem.W.fnOf "kind" "Tree.kind" (defArgs s_Tree_kind) (defBody s_Tree_kind) (defScope s_Tree_kind) .none kV7 dc7 pm7 an7 cd7 ct7), sl7⟩)
    (c7 : PySem.W.codeIn K cd7 "Tree.kind" = true)
    (k7 : PySem.W.keepIn K (.ref f7) = true)
    (a8 : PySem.W.findIn K (.ref C) "target" = some (some (.ref f8)))
    (i8 : PySem.W.isFn K (.ref f8) = true)
    (l8 : K.lookup f8 = some ⟨oc8, od8, .func (PySem.W.fnOf "target" "Tree.target" (defArgs s_Tree_target) (defBody s_Tree_target) (defScope s_Tree_target) .none kV8 dc8 pm8 an8 cd8 ct8), sl8⟩)
    (c8 : PySem.W.codeIn K cd8 "Tree.target" = true)
    (k8 : PySem.W.keepIn K (.ref f8) = true)
    (a9 : PySem.W.findIn K (.ref C) "resolve" = some (some (.ref f9)))
    (i9 : PySem.W.isFn K (.ref f9) = true)
    (l9 : K.lookup f9 = some ⟨oc9, od9, .func (PySem.W.fnOf "resolve" "Tree.resolve" (defArgs s_Tree_resolve) (defBody s_Tree_resolve) (defScope s_Tree_resolve) .none kV9 dc9 pm9 an9 cd9 ct9), sl9⟩)
    (c9 : PySem.W.codeIn K cd9 "Tree.resolve" = true)
    (k9 : PySem.W.keepIn K (.ref f9) = true)
    (a10 : PySem.W.findIn K (.ref C) "_has_room" = some (some (.ref f10)))
    (i10 : PySem.W.isFn K (.ref f10) = true)
    (l10 : K.lookup f10 = some ⟨oc10, od10, .func (PySem.W.fnOf "_has_room" "Tree._has_room" (defArgs s_Tree__has_room) (defBody s_Tree__has_room) (defScope s_Tree__has_room) .none kV10 dc10 pm10 an10 cd10 ct10), sl10⟩)
    (c10 : PySem.W.codeIn K cd10 "Tree._has_room" = true)
    (k10 : PySem.W.keepIn K (.ref f10) = true)
    (a11 : PySem.W.findIn K (.ref C) "link" = some (some (.ref f11)))
    (i11 : PySem.W.isFn K (.ref f11) = true)
    (l11 : K.lookup f11 = some ⟨oc11, od11, .func (PySem.W.fnOf "link" "Tree.link" (defArgs s_Tree_link) (defBody s_Tree_link) (defScope s_Tree_link) .none kV11 dc11 pm11 an11 cd11 ct11), sl11⟩)
    (c11 : PySem.W.codeIn K cd11 "Tree.link" = true)
    (k11 : PySem.W.keepIn K (.ref f11) = true)
    (a12 : PySem.W.findIn K (.ref C) "write" = some (some (.ref f12)))
    (i12 : PySem.W.isFn K (.ref f12) = true)
    (l12 : K.lookup f12 = some ⟨oc12, od12, .func (PySem.W.fnOf "write" "Tree.write" (defArgs s_Tree_write) (defBody s_Tree_write) (defScope s_Tree_write) .none kV12 dc12 pm12 an12 cd12 ct12), sl12⟩)
    (c12 : PySem.W.codeIn K cd12 "Tree.write" = true)
    (k12 : PySem.W.keepIn K (.ref f12) = true)
    (a13 : PySem.W.nsIn K mainGlobals "_law_cell" = some (some (.ref f13)))
    (l13 : K.lookup f13 = some ⟨oc13, od13, .func (PySem.W.fnOf "_law_cell" "_law_cell" (defArgs s__law_cell) (defBody s__law_cell) (defScope s__law_cell) .none kV13 dc13 pm13 an13 cd13 ct13), sl13⟩)
    (c13 : PySem.W.codeIn K cd13 "_law_cell" = true)
    (k13 : PySem.W.keepIn K (.ref f13) = true)
    (a14 : PySem.W.nsIn K mainGlobals "_law_end" = some (some (.ref f14)))
    (l14 : K.lookup f14 = some ⟨oc14, od14, .func (PySem.W.fnOf "_law_end" "_law_end" (defArgs s__law_end) (defBody s__law_end) (defScope s__law_end) .none kV14 dc14 pm14 an14 cd14 ct14), sl14⟩)
    (c14 : PySem.W.codeIn K cd14 "_law_end" = true)
    (k14 : PySem.W.keepIn K (.ref f14) = true)
    (a15 : PySem.W.nsIn K mainGlobals "law" = some (some (.ref f15)))
    (l15 : K.lookup f15 = some ⟨oc15, od15, .func (PySem.W.fnOf "law" "law" (defArgs s_law) (defBody s_law) (defScope s_law) .none kV15 dc15 pm15 an15 cd15 ct15), sl15⟩)
    (c15 : PySem.W.codeIn K cd15 "law" = true)
    (k15 : PySem.W.keepIn K (.ref f15) = true)
    (pg : PySem.W.plainGet K C Str.empty = true)
    (hdi : PySem.W.hasDictIn K C = true)
    (po : PySem.W.plainOver K C = true)
    (sa : PySem.W.findIn K (.ref C) "__setattr__" = some (some (.builtin "object.__setattr__")))
    (mk : PySem.W.makesIn K C = true)
    (kc : PySem.W.keepIn K (.ref C) = true)
    (na_entries : PySem.W.findIn K (.ref C) "entries" = some none)
    (zb_abs : PySem.W.nsIn K mainGlobals "abs" = some none)
    (zb_all : PySem.W.nsIn K mainGlobals "all" = some none)
    (zb_dict : PySem.W.nsIn K mainGlobals "dict" = some none)
    (zb_int : PySem.W.nsIn K mainGlobals "int" = some none)
    (zb_isinstance : PySem.W.nsIn K mainGlobals "isinstance" = some none)
    (zb_len : PySem.W.nsIn K mainGlobals "len" = some none)
    (zb_ord : PySem.W.nsIn K mainGlobals "ord" = some none)
    (zb_range : PySem.W.nsIn K mainGlobals "range" = some none)
    (zb_sorted : PySem.W.nsIn K mainGlobals "sorted" = some none)
    (zb_str : PySem.W.nsIn K mainGlobals "str" = some none)
    (zc_CONTENT_LENGTH : PySem.W.nsIn K mainGlobals "CONTENT_LENGTH" = some (some (.int 400 tk_CONTENT_LENGTH)))
    (zc_NEWLINE : PySem.W.nsIn K mainGlobals "NEWLINE" = some (some (.int 10 tk_NEWLINE)))
    (zc_SPACE : PySem.W.nsIn K mainGlobals "SPACE" = some (some (.int 32 tk_SPACE)))
    (zc_PERCENT : PySem.W.nsIn K mainGlobals "PERCENT" = some (some (.int 37 tk_PERCENT)))
    (zc_TILDE : PySem.W.nsIn K mainGlobals "TILDE" = some (some (.int 126 tk_TILDE)))
    (zc_MOST_NAMES : PySem.W.nsIn K mainGlobals "MOST_NAMES" = some (some (.int 4 tk_MOST_NAMES)))
    (zc_NAME_LENGTH : PySem.W.nsIn K mainGlobals "NAME_LENGTH" = some (some (.int 12 tk_NAME_LENGTH)))
    (zc_NAME_SIGNS : PySem.W.nsIn K mainGlobals "NAME_SIGNS" = some (some (.str (Str.ofString "abcdefghijklmnopqrstuvwxyz0123456789_.") tk_NAME_SIGNS)))
    (zc_MOST_PERSONS_ENTRIES : PySem.W.nsIn K mainGlobals "MOST_PERSONS_ENTRIES" = some (some (.int 60 tk_MOST_PERSONS_ENTRIES)))
    (zc_MOST_LINKS : PySem.W.nsIn K mainGlobals "MOST_LINKS" = some (some (.int 8 tk_MOST_LINKS)))
    : ∃ fd : FuncData, (∀ (s : Shared) (v : Value), BindsTo s fd ⟨[v], []⟩ [("script", v)]) ∧ ∀ base : Heap, K.In base → base.Ns mainGlobals mg → FnOk l.prog w K mg base CX0 5 fa fd ["script"] (sp_law K) := by
  cases hfa.symm.trans (PySem.W.mg_of X G a15)
  have T : Tx mg := ⟨PySem.W.mg_none_of X G zb_abs, PySem.W.mg_none_of X G zb_all, PySem.W.mg_none_of X G zb_dict, PySem.W.mg_none_of X G zb_int, PySem.W.mg_none_of X G zb_isinstance, PySem.W.mg_none_of X G zb_len, PySem.W.mg_none_of X G zb_ord, PySem.W.mg_none_of X G zb_range, PySem.W.mg_none_of X G zb_sorted, PySem.W.mg_none_of X G zb_str, ⟨_, PySem.W.mg_of X G zc_CONTENT_LENGTH, ⟨_, rfl⟩⟩, ⟨_, PySem.W.mg_of X G zc_NEWLINE, ⟨_, rfl⟩⟩, ⟨_, PySem.W.mg_of X G zc_SPACE, ⟨_, rfl⟩⟩, ⟨_, PySem.W.mg_of X G zc_PERCENT, ⟨_, rfl⟩⟩, ⟨_, PySem.W.mg_of X G zc_TILDE, ⟨_, rfl⟩⟩, ⟨_, PySem.W.mg_of X G zc_MOST_NAMES, ⟨_, rfl⟩⟩, ⟨_, PySem.W.mg_of X G zc_NAME_LENGTH, ⟨_, rfl⟩⟩, ⟨_, PySem.W.mg_of X G zc_NAME_SIGNS, ⟨_, rfl⟩⟩, ⟨_, PySem.W.mg_of X G zc_MOST_PERSONS_ENTRIES, ⟨_, rfl⟩⟩, ⟨_, PySem.W.mg_of X G zc_MOST_LINKS, ⟨_, rfl⟩⟩⟩
  have TC : Tc K C := ⟨⟨pg, hdi, po, sa⟩, na_entries⟩
  have F0 := fun_mk (st := s__is_code) l0 c0 k0
  have b0 := F0.binds (ps := ["code"]) fun _ _ _ _ _ _ us hl => match us, hl with | [_], _ => rfl
  have F1 := fun_mk (st := s_is_text) l1 c1 k1
  have b1 := F1.binds (ps := ["value"]) fun _ _ _ _ _ _ us hl => match us, hl with | [_], _ => rfl
  have F2 := fun_mk (st := s_is_content) l2 c2 k2
  have b2 := F2.binds (ps := ["value"]) fun _ _ _ _ _ _ us hl => match us, hl with | [_], _ => rfl
  have F3 := fun_mk (st := s__is_name) l3 c3 k3
  have b3 := F3.binds (ps := ["name"]) fun _ _ _ _ _ _ us hl => match us, hl with | [_], _ => rfl
  have F4 := fun_mk (st := s_is_path) l4 c4 k4
  have b4 := F4.binds (ps := ["value"]) fun _ _ _ _ _ _ us hl => match us, hl with | [_], _ => rfl
  have F5 := fun_mk (st := s__is_persons) l5 c5 k5
  have b5 := F5.binds (ps := ["entry"]) fun _ _ _ _ _ _ us hl => match us, hl with | [_], _ => rfl
  have F6 := fun_mk (st := s_Tree___init__) l6 c6 k6
  have b6 := F6.binds (ps := ["self"]) fun _ _ _ _ _ _ us hl => match us, hl with | [_], _ => rfl
  have F7 := fun_mk (st := s_Tree_kind) l7 c7 k7
  have b7 := F7.binds (ps := ["self", "path"]) fun _ _ _ _ _ _ us hl => match us, hl with | [_, _], _ => rfl
  have F8 := fun_mk (st := s_Tree_target) l8 c8 k8
  have b8 := F8.binds (ps := ["self", "path"]) fun _ _ _ _ _ _ us hl => match us, hl with | [_, _], _ => rfl
  have F9 := fun_mk (st := s_Tree_resolve) l9 c9 k9
  have b9 := F9.binds (ps := ["self", "path"]) fun _ _ _ _ _ _ us hl => match us, hl with | [_, _], _ => rfl
  have F10 := fun_mk (st := s_Tree__has_room) l10 c10 k10
  have b10 := F10.binds (ps := ["self", "path"]) fun _ _ _ _ _ _ us hl => match us, hl with | [_, _], _ => rfl
  have F11 := fun_mk (st := s_Tree_link) l11 c11 k11
  have b11 := F11.binds (ps := ["self", "path", "target"]) fun _ _ _ _ _ _ us hl => match us, hl with | [_, _, _], _ => rfl
  have F12 := fun_mk (st := s_Tree_write) l12 c12 k12
  have b12 := F12.binds (ps := ["self", "path", "text", "by"]) fun _ _ _ _ _ _ us hl => match us, hl with | [_, _, _, _], _ => rfl
  have F13 := fun_mk (st := s__law_cell) l13 c13 k13
  have b13 := F13.binds (ps := ["script", "k"]) fun _ _ _ _ _ _ us hl => match us, hl with | [_, _], _ => rfl
  have F14 := fun_mk (st := s__law_end) l14 c14 k14
  have b14 := F14.binds (ps := ["links", "path"]) fun _ _ _ _ _ _ us hl => match us, hl with | [_, _], _ => rfl
  have F15 := fun_mk (st := s_law) l15 c15 k15
  have b15 := F15.binds (ps := ["script"]) fun _ _ _ _ _ _ us hl => match us, hl with | [_], _ => rfl
  refine ⟨PySem.W.fnOf "law" "law" (defArgs s_law) (defBody s_law) (defScope s_law) .none kV15 dc15 pm15 an15 cd15 ct15, fun s v => .of_eq rfl, fun base _ _ => ?_⟩
  have C__is_code : Kn.Cl l.prog w K mg base 1 "_is_code" (sp__is_code K) := Kn.cl_of (ok__is_code F0 T) F0 (PySem.W.mg_of X G a0) b0
  have C_is_text : Kn.Cl l.prog w K mg base 2 "is_text" (sp_is_text K) := Kn.cl_of (ok_is_text F1 T C__is_code) F1 (PySem.W.mg_of X G a1) b1
  have C_is_content : Kn.Cl l.prog w K mg base 3 "is_content" (sp_is_content K) := Kn.cl_of (ok_is_content F2 T C_is_text) F2 (PySem.W.mg_of X G a2) b2
  have C__is_name : Kn.Cl l.prog w K mg base 1 "_is_name" (sp__is_name K) := Kn.cl_of (ok__is_name F3 T) F3 (PySem.W.mg_of X G a3) b3
  have C_is_path : Kn.Cl l.prog w K mg base 2 "is_path" (sp_is_path K) := Kn.cl_of (ok_is_path F4 T C__is_name) F4 (PySem.W.mg_of X G a4) b4
  have C__is_persons : Kn.Cl l.prog w K mg base 1 "_is_persons" (sp__is_persons K) := Kn.cl_of (ok__is_persons F5 T) F5 (PySem.W.mg_of X G a5) b5
  have M_Tree : Kn.Mkr l.prog w K mg base 1 "Tree" C (sp_Tree___init__ C K) := ⟨_, _, _, ⟨mk, a6, i6, kc⟩, ok_Tree___init__ F6 T TC, PySem.W.mg_of X G aC, b6⟩
  have M_Tree_kind : Kn.Mt l.prog w K mg base 1 C "kind" (sp_Tree_kind C K) := ⟨_, _, _, TC.cl, ⟨a7, i7, k7⟩, ok_Tree_kind F7 T TC, b7⟩
  have M_Tree_target : Kn.Mt l.prog w K mg base 2 C "target" (sp_Tree_target C K) := ⟨_, _, _, TC.cl, ⟨a8, i8, k8⟩, ok_Tree_target F8 T TC M_Tree_kind, b8⟩
  have M_Tree_resolve : Kn.Mt l.prog w K mg base 3 C "resolve" (sp_Tree_resolve C K) := ⟨_, _, _, TC.cl, ⟨a9, i9, k9⟩, ok_Tree_resolve F9 T TC M_Tree_kind M_Tree_target, b9⟩
  have M_Tree__has_room : Kn.Mt l.prog w K mg base 2 C "_has_room" (sp_Tree__has_room C K) := ⟨_, _, _, TC.cl, ⟨a10, i10, k10⟩, ok_Tree__has_room F10 T TC C__is_persons, b10⟩
  have M_Tree_link : Kn.Mt l.prog w K mg base 3 C "link" (sp_Tree_link C K) := ⟨_, _, _, TC.cl, ⟨a11, i11, k11⟩, ok_Tree_link F11 T TC C_is_path M_Tree__has_room, b11⟩
  have M_Tree_write : Kn.Mt l.prog w K mg base 4 C "write" (sp_Tree_write C K) := ⟨_, _, _, TC.cl, ⟨a12, i12, k12⟩, ok_Tree_write F12 T TC C_is_path C_is_content M_Tree__has_room, b12⟩
  have C__law_cell : Kn.Cl l.prog w K mg base 1 "_law_cell" (sp__law_cell K) := Kn.cl_of (ok__law_cell F13 T) F13 (PySem.W.mg_of X G a13) b13
  have C__law_end : Kn.Cl l.prog w K mg base 1 "_law_end" (sp__law_end K) := Kn.cl_of (ok__law_end F14 T) F14 (PySem.W.mg_of X G a14) b14
  exact ok_law F15 T TC C__law_cell C__law_end M_Tree M_Tree_link M_Tree_write M_Tree_target M_Tree_resolve
end My
open PySem PySem.W PyProof.Rows
set_option maxHeartbeats 0 in
theorem PySem.Challenge.cw_kilnyard_k08_ends_of_links_holds : PySem.Challenge.rw_kilnyard_k08_ends_of_links.Holds := by
  w_on; o_law; k_head; (case hw => w_witness2)
  k_fill
  refine L2.walk_of (l := PySem.Challenge.rw_kilnyard_k08_ends_of_links) (n := 63) (k := 5) (x := "script") (CX := fun _ => L2.CX0) (sp := fun w => My.sp_law _) rfl (by decide) rfl ⟨rfl, by decide, by decide⟩ (fun w h Y => PySem.W.kIn_of Y) ?F (fun _ _ a ns hl _ hS => ⟨a, ns, rfl, ⟨hS, hl⟩, fun _ _ => rfl⟩) (fun _ _ _ _ _ h => h)
  case F =>
    intro w mg fa h KX G hmg
    refine' My.all_mk KX G hmg ?aC ?a0 ?l0 ?c0 ?k0 ?a1 ?l1 ?c1 ?k1 ?a2 ?l2 ?c2 ?k2 ?a3 ?l3 ?c3 ?k3 ?a4 ?l4 ?c4 ?k4 ?a5 ?l5 ?c5 ?k5 ?a6 ?i6 ?l6 ?c6 ?k6 ?a7 ?i7 ?l7 ?c7 ?k7 ?a8 ?i8 ?l8 ?c8 ?k8 ?a9 ?i9 ?l9 ?c9 ?k9 ?a10 ?i10 ?l10 ?c10 ?k10 ?a11 ?i11 ?l11 ?c11 ?k11 ?a12 ?i12 ?l12 ?c12 ?k12 ?a13 ?l13 ?c13 ?k13 ?a14 ?l14 ?c14 ?k14 ?a15 ?l15 ?c15 ?k15 ?pg ?hdi ?po ?sa ?mk ?kc ?na_entries ?zb_abs ?zb_all ?zb_dict ?zb_int ?zb_isinstance ?zb_len ?zb_ord ?zb_range ?zb_sorted ?zb_str ?zc_CONTENT_LENGTH ?zc_NEWLINE ?zc_SPACE ?zc_PERCENT ?zc_TILDE ?zc_MOST_NAMES ?zc_NAME_LENGTH ?zc_NAME_SIGNS ?zc_MOST_PERSONS_ENTRIES ?zc_MOST_LINKS
    (case aC => k_is)
    (case a0 => k_is)
    (case l0 => k_is)
    (case c0 => k_is)
    (case k0 => k_is)
    (case a1 => k_is)
    (case l1 => k_is)
    (case c1 => k_is)
    (case k1 => k_is)
    (case a2 => k_is)
    (case l2 => k_is)
    (case c2 => k_is)
    (case k2 => k_is)
    (case a3 => k_is)
    (case l3 => k_is)
    (case c3 => k_is)
    (case k3 => k_is)
    (case a4 => k_is)
    (case l4 => k_is)
    (case c4 => k_is)
    (case k4 => k_is)
    (case a5 => k_is)
    (case l5 => k_is)
    (case c5 => k_is)
    (case k5 => k_is)
    (case a6 => k_is)
    (case i6 => k_is)
    (case l6 => k_is)
    (case c6 => k_is)
    (case k6 => k_is)
    (case a7 => k_is)
    (case i7 => k_is)
    (case l7 => k_is)
    (case c7 => k_is)
    (case k7 => k_is)
    (case a8 => k_is)
    (case i8 => k_is)
    (case l8 => k_is)
    (case c8 => k_is)
    (case k8 => k_is)
    (case a9 => k_is)
    (case i9 => k_is)
    (case l9 => k_is)
    (case c9 => k_is)
    (case k9 => k_is)
    (case a10 => k_is)
    (case i10 => k_is)
    (case l10 => k_is)
    (case c10 => k_is)
    (case k10 => k_is)
    (case a11 => k_is)
    (case i11 => k_is)
    (case l11 => k_is)
    (case c11 => k_is)
    (case k11 => k_is)
    (case a12 => k_is)
    (case i12 => k_is)
    (case l12 => k_is)
    (case c12 => k_is)
    (case k12 => k_is)
    (case a13 => k_is)
    (case l13 => k_is)
    (case c13 => k_is)
    (case k13 => k_is)
    (case a14 => k_is)
    (case l14 => k_is)
    (case c14 => k_is)
    (case k14 => k_is)
    (case a15 => k_is)
    (case l15 => k_is)
    (case c15 => k_is)
    (case k15 => k_is)
    (case pg => k_is)
    (case hdi => k_is)
    (case po => k_is)
    (case sa => k_is)
    (case mk => k_is)
    (case kc => k_is)
    (case na_entries => k_is)
    (case zb_abs => k_is)
    (case zb_all => k_is)
    (case zb_dict => k_is)
    (case zb_int => k_is)
    (case zb_isinstance => k_is)
    (case zb_len => k_is)
    (case zb_ord => k_is)
    (case zb_range => k_is)
    (case zb_sorted => k_is)
    (case zb_str => k_is)
    (case zc_CONTENT_LENGTH => k_is)
    (case zc_NEWLINE => k_is)
    (case zc_SPACE => k_is)
    (case zc_PERCENT => k_is)
    (case zc_TILDE => k_is)
    (case zc_MOST_NAMES => k_is)
    (case zc_NAME_LENGTH => k_is)
    (case zc_NAME_SIGNS => k_is)
    (case zc_MOST_PERSONS_ENTRIES => k_is)
    (case zc_MOST_LINKS => k_is)

