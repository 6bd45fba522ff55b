import PyProof.Rows.All
import Wide.All
import OpenK.AllK
import Wide.FinOn
import HandS.Evl
import HandS.Codes
import HandS.Iter
import HandS.Dict
import HandS.Text
import HandS.Words
import HandS.Walk
import HandS.IsInst
import HandS.Steps
import HandS.More
import HandS.ReplaceList
import HandS.ReplaceLit
import HandS.Replace
import HandS.ExcInit
import HandS.ExcIs
import HandS.ExcField
import HandS.IntHex
import HandS.FStr
import KE.KExcIs
import KE.KxField
import HandS.WordsExc
import PySem.Challenge.RW_kilnyard_k01_key_of_a_text
set_option Elab.async false
set_option linter.all false
set_option maxRecDepth 100000
set_option maxHeartbeats 4000000
/-! Kn: what all our proofs share: named relations, values, comprehensions, promises of pure defs. -/
namespace Kn
open PySem PySem.Spec PyProof.Rows L2 Evl SX

/-! ### relations with a name -/
def rAddStr : R2 := fun x y H Q => ∃ i j, x = .str i ∧ y = .str j ∧ i.length + j.length ≤ sizeLine ∧ Q (.str (i ++ j)) H
theorem op_addS {X : Cx} : OpR X (binaryOp .Add) rAddStr := op_add_str
def rLenStr : List V → Hp → VK → Prop := fun xs H Q => ∃ z, xs = [.str z] ∧ z.length ≤ sizeLine ∧ Q (.int z.length) H
theorem cr_lenStr {X : Cx} : CallR X (.builtin "len") rLenStr := call_len_str
theorem cr_lenSeq {X : Cx} : CallR X (.builtin "len") (rLenS X.K) := call_len_seq
def rOrd : List V → Hp → VK → Prop := fun xs H Q => ∃ x, xs = [.str x] ∧ x.length = 1 ∧ Q (.int (x.cps.getD 0 0 : Nat)) H
theorem cr_ord {X : Cx} : CallR X (.builtin "ord") rOrd := call_ord
def rInt1 : List V → Hp → VK → Prop := fun xs H Q => (∃ i, xs = [.int i] ∧ Q (.int i) H) ∨ ∃ k, xs = [.bl k] ∧ Q (.int (if k then 1 else 0)) H
theorem cr_int1 {X : Cx} : CallR X (.type "int") rInt1 := call_int1
def rAbs : List V → Hp → VK → Prop := fun xs H Q => ∃ i, xs = [.int i] ∧ Q (.int (if i < 0 then -i else i)) H
theorem cr_abs {X : Cx} : CallR X (.builtin "abs") rAbs := call_abs
def rJoin (K : PySem.W.Frag) : V → List V → Hp → VK → Prop := fun x xs H Q => ∃ a p, ∃ ys : List Str, x = .str a ∧ xs = [.ref p] ∧ (SqL K H p (ys.map V.str) ∨ SqT K H p (ys.map V.str)) ∧ (ys.map (·.length)).sum + ys.length * a.length ≤ 16777216 ∧ Q (.str (Txt.join a ys)) H
theorem pe_joinN {X : Cx} {e : Expr} {to te : TE} (h : PE X e (tM1 (fun x xs H Q => ∃ a p, ∃ ys : List Str, x = .str a ∧ xs = [.ref p] ∧ (SqL X.K H p (ys.map V.str) ∨ SqT X.K H p (ys.map V.str)) ∧ (ys.map (·.length)).sum + ys.length * a.length ≤ 16777216 ∧ Q (.str (Txt.join a ys)) H) to te)) : PE X e (tM1 (rJoin X.K) to te) := h
theorem cr_isi {X : Cx} : CallR X (.builtin "isinstance") (rIsi X.K) := call_isi

/-! ### values -/
section
variable {K : PySem.W.Frag} {σ : L2.St} {H H' : Hp} {ta tb te tc : TE} {t u : TT} {x y z v : V}
theorem val_abs (i : Int) : (if i < 0 then -i else i) = (i.natAbs : Int) := by split <;> omega
theorem rc_abs {i : Int} : RC rAbs [.int i] H (.int (i.natAbs : Int)) := fun H1 _ _ q => ⟨i, rfl, by rw [val_abs]; exact q H1 (Ex.refl H1)⟩
theorem rc_int {i : Int} : RC rInt1 [.int i] H (.int i) := fun H1 _ _ q => .inl ⟨i, rfl, q H1 (Ex.refl H1)⟩
theorem rc_intB {b : Bool} : RC rInt1 [.bl b] H (.int (if b then 1 else 0)) := fun H1 _ _ q => .inr ⟨b, rfl, q H1 (Ex.refl H1)⟩
theorem rc_ord {c : Nat} : RC rOrd [.str (S [c])] H (.int (c : Int)) := fun H1 _ _ q => ⟨S [c], rfl, rfl, q H1 (Ex.refl H1)⟩
theorem rc_lenS {l : List Nat} (h : l.length ≤ 100000) : RC rLenStr [.str (S l)] H (.int (l.length : Int)) := fun H1 _ _ q => ⟨S l, rfl, by rw [S_len]; exact sz_of h, by rw [S_len]; exact q H1 (Ex.refl H1)⟩
theorem rv_addS {a b : List Nat} (h : a.length + b.length ≤ 100000) : RV rAddStr (.str (S a)) (.str (S b)) H (.str (S (a ++ b))) := fun H1 _ _ q =>
  ⟨S a, S b, rfl, rfl, by rw [S_len, S_len]; exact sz_of h, by rw [S_cat]; exact q H1 (Ex.refl H1)⟩
theorem rv_mod {i j : Int} (h : 0 < j) : RV (rI (fun _ j => 0 < j) fun i j => .int (i % j)) (.int i) (.int j) H (.int (i % j)) := rv_I h
theorem rv_fdiv {i j : Int} (h : CDiv i j) : RV (rI CDiv fun i j => .int (i / j)) (.int i) (.int j) H (.int (i / j)) := rv_I h
theorem rv_mul {i j : Int} (h : CMul i j) : RV (rI CMul fun i j => .int (i * j)) (.int i) (.int j) H (.int (i * j)) := rv_I h
theorem S1 (x : Str) {l : List Nat} (h : x.cps.toList = l) : x = S l := TL.ext_tl h
theorem ev_chain {r r' : R2} {k b : Bool} (ha : Ev ta σ H x) (hb : Ev tb σ H y) (hr : RV r x y H (.bl k)) (hc : Ev tc σ H z) (hr' : RV r' y z H (.bl b)) : Ev (tChain r r' ta tb tc) σ H (.bl (k && b)) := fun H1 e Q q =>
  ha H1 e _ fun H2 e2 => hb H2 (e.trans e2) _ fun H3 e3 => hr H3 ((e.trans e2).trans e3) _ fun H4 e4 => ⟨k, rfl, by
    have e14 := (e2.trans e3).trans e4
    cases k with
    | true =>
      show tc σ H4 fun w' H5 => r' y w' H5 Q
      exact hc H4 (e.trans e14) _ fun H5 e5 => hr' H5 ((e.trans e14).trans e5) Q fun H6 e6 => q H6 ((e14.trans e5).trans e6)
    | false =>
      show Q (.bl false) H4
      exact q H4 e14⟩
theorem ev_idxS {l : List Nat} {i : Int} {c : Nat} (ha : Ev ta σ H (.str (S l))) (hb : Ev tb σ H (.int i)) (h : l.length ≤ 100000) (hat : atI l i = some c) : Ev (tOp rIxS ta tb) σ H (.str (S [c])) := ev_op ha hb (rv_ixS (w := S l) (by rw [S_len]; exact h) hat)
theorem atI_nat' {α : Type} {xs : List α} {i : Int} {j : Nat} {v : α} (hi : i = (j : Int)) (h : xs[j]? = some v) : atI xs i = some v := by
  subst hi
  exact atI_nat h
theorem ev_join {s : List Nat} {ys : List (List Nat)} (hs : Ev ta σ H (.str (S s))) (hl : EvL tb σ H (ys.map fun l => V.str (S l))) (hz : (ys.map (·.length)).sum + ys.length * s.length ≤ 16777216) : Ev (tM1 (rJoin K) ta tb) σ H (.str (S (TL.joinL s ys))) := fun H1 e Q q =>
  hs H1 e _ fun H2 e2 => ⟨⟨_, rfl⟩, hl H2 (e.trans e2) _ fun p H3 _ e3 hp => ⟨S s, p, ys.map S, rfl, rfl, .inl (.inl (.inl (by rw [List.map_map]; exact hp))), by
    rw [SX.lens, List.length_map, S_len]
    exact hz, by
    rw [SX.join_S]
    exact q H3 (e2.trans e3)⟩⟩
theorem ev_slS {to tp : TO} {l : List Nat} {lo hi : Option Int} (h : Ev te σ H (.str (S l))) (h1 : EvO to σ H lo) (h2 : EvO tp σ H hi) (hz : l.length ≤ 100000) : Ev (tSl rSlS te to tp) σ H (.str (cutS (S l) lo hi)) := fun H1 e _ q =>
  h H1 e _ fun H2 e2 => h1 H2 (e.trans e2) _ fun H3 e3 => h2 H3 ((e.trans e2).trans e3) _ fun H4 e4 => ⟨S l, rfl, by rw [S_len]; exact sz_of hz, q H4 ((e2.trans e3).trans e4)⟩
theorem ev_isi {T : String} {c : String} {b : Bool} (ha : Ev ta σ H x) (ht : TyX K H x (.type T)) (hb : kitB T c = some b) (hm : ∀ H1, Ex H H1 → TyX K H1 x (.type T)) : Ev (tCB (rIsi K) (tCons ta (tCons (tC (.ty c)) tNil))) σ H (.bl b) := fun H1 e Q q =>
  ha H1 e _ fun H2 e2 => ⟨x, .ty c, .type T, .type c, b, rfl, .ty c, hm H2 (e.trans e2), kit_ty hb, q H2 e2⟩
theorem ev_all {τ : Type} {xs : List τ} {p : τ → Bool} (ha : EvL ta σ H (xs.map fun a => V.bl (p a))) : Ev (tCB (rAll K) (tCons ta tNil)) σ H (.bl (xs.all p)) := fun H1 e Q q =>
  ha H1 e _ fun a H2 _ e2 h2 => ⟨a, xs.map p, rfl, sq_of (by rw [List.map_map]; exact h2), by
    have hh : (xs.map p).all id = xs.all p := by rw [List.all_map]; rfl
    rw [hh]
    exact q H2 e2⟩

/-! ### comprehensions: no test, a new list of what each item gives -/
theorem given_all {α : Type} {xs : List α} {f : α → V} {d : V} : given xs.length (fun _ => true) (fun i => (xs[i]?.map f).getD d) = xs.map f := by
  unfold given
  rw [List.filter_eq_self.mpr (fun _ _ => rfl)]
  refine List.ext_getElem (by simp) fun i h1 h2 => ?_
  simp at h1 h2
  simp [h2]
theorem et_yes {H : Hp} : EvT tYes σ H true := fun H1 _ _ q => q H1 (Ex.refl H1)
theorem el_lcM {τ : Type} {a : Addr} {ns : List τ} {g f : τ → V} {tl : TE} {j : Nat} {vs : List Nat} (h : Ev tl σ H (.ref a)) (hx : SqL K H a (ns.map g)) (hz : ns.length ≤ 40000) (hw : ∀ x, wipe ((wipe σ vs).set j (some x)) vs = wipe σ vs)
    (he : ∀ n ∈ ns, ∀ H1, Ex H H1 → Ev te ((wipe σ vs).set j (some (g n))) H1 (f n)) : EvL (tLc (iList K tl) (gName j) tYes te vs) σ H (ns.map f) := by
  have k := el_lcL (K := K) (te := te) (t := tYes) (j := j) (vs := vs) (fun _ => true) (fun i => (ns[i]?.map f).getD .non) h hx (by rw [List.length_map]; exact hz) hw (fun _ _ H1 _ _ => et_yes) (fun i x H1 e hi _ => by
    rw [List.getElem?_map] at hi
    cases hn : ns[i]? with
    | none => rw [hn] at hi; cases hi
    | some n =>
      rw [hn] at hi
      cases Option.some.inj hi
      exact he n (List.mem_of_getElem? hn) H1 e)
  rw [List.length_map, given_all] at k
  exact k
theorem el_lcN {τ : Type} {ns : List τ} {g f : τ → V} {tl : TE} {j : Nat} {vs : List Nat} (h : EvL tl σ H (ns.map g)) (hz : ns.length ≤ 40000) (hw : ∀ x, wipe ((wipe σ vs).set j (some x)) vs = wipe σ vs)
    (he : ∀ n ∈ ns, ∀ H1, Ex H H1 → Ev te ((wipe σ vs).set j (some (g n))) H1 (f n)) : EvL (tLc (iList K tl) (gName j) tYes te vs) σ H (ns.map f) := by
  have k := el_lcNL (K := K) (te := te) (t := tYes) (j := j) (vs := vs) (fun _ => true) (fun i => (ns[i]?.map f).getD .non) h (by rw [List.length_map]; exact hz) hw (fun _ _ H1 _ _ => et_yes) (fun i x H1 e hi _ => by
    rw [List.getElem?_map] at hi
    cases hn : ns[i]? with
    | none => rw [hn] at hi; cases hi
    | some n =>
      rw [hn] at hi
      cases Option.some.inj hi
      exact he n (List.mem_of_getElem? hn) H1 e)
  rw [List.length_map, given_all] at k
  exact k
theorem el_lcR {n : Int} {f : Nat → V} {ta : TA} {j : Nat} {vs : List Nat} (h : EvA ta σ H [.int n]) (hn : 0 ≤ n ∧ n ≤ 40000) (hw : ∀ x, wipe ((wipe σ vs).set j (some x)) vs = wipe σ vs)
    (he : ∀ (i : Nat) H1, Ex H H1 → (i : Int) < n → Ev te ((wipe σ vs).set j (some (.int (i : Int)))) H1 (f i)) : EvL (tLc (iRng1 ta) (gName j) tYes te vs) σ H ((List.range n.toNat).map f) := by
  have k := el_lcR1 (te := te) (t := tYes) (j := j) (vs := vs) (fun _ => true) f h hn hw (fun _ H1 _ _ => et_yes) (fun i H1 e hi _ => he i H1 e hi)
  unfold given at k
  rw [List.filter_eq_self.mpr (fun _ _ => rfl)] at k
  exact k
/-- over the signs of a text -/
theorem el_lcS {l : List Nat} {f : Nat → V} {ts : TE} {j : Nat} {vs : List Nat} (h : Ev ts σ H (.str (S l))) (hz : l.length ≤ 40000) (hw : ∀ x, wipe ((wipe σ vs).set j (some x)) vs = wipe σ vs)
    (he : ∀ c ∈ l, ∀ H1, Ex H H1 → Ev te ((wipe σ vs).set j (some (.str (S [c])))) H1 (f c)) : EvL (tLc (iStr ts) (gName j) tYes te vs) σ H (l.map f) := fun H0 e Q q => h H0 e _ fun H1 e1 => ⟨S l, rfl, fun Dl hD => by
  have hl : (S l).cps.size = l.length := by simp [S]
  refine lc_it walk_str (Cw H1 (fun _ => true) (fun i => (l[i]?.map f).getD .non) Dl) ⟨hD, Ex.new hD, upd_same⟩ (fun _ _ _ _ => trivial) (fun i x H2 H3 hi p y => ?_) (fun H2 p => ?_)
  · obtain ⟨rfl, c, hc, rfl⟩ := y
    have hc' : l[i]? = some c := by simpa [S] using hc
    refine ⟨hw _, cw_turn p (by rw [hl] at hi; omega) et_yes (fun _ => ?_)⟩
    rw [hc']
    exact he c (List.mem_of_getElem? hc') H1 (e.trans e1)
  · rw [hl] at p
    have := p.2.2
    rw [given_all] at this
    exact q Dl H2 (fresh_back e1 p.1) (e1.trans p.2.1) this⟩
end

/-! ### promises of pure defs: a value, a new list -/
def Rt (H : Hp) (v : V) (Q : VK) : Prop := ∀ H1, Ex H H1 → Q v H1
def Rl (H : Hp) (xs : List V) (Q : VK) : Prop := ∀ p H1, H p = none → Ex H H1 → H1 p = some (.lst xs) → Q (.ref p) H1
def sp1 {α : Type} (A : α → List V) (pre : α → Hp → Prop) (val : α → V) : Sp := fun vs H Q _ => ∃ a, vs = A a ∧ pre a H ∧ Rt H (val a) Q
def sp2 {α β : Type} (A : α → β → List V) (pre : α → β → Hp → Prop) (val : α → β → V) : Sp := fun vs H Q _ => ∃ a b, vs = A a b ∧ pre a b H ∧ Rt H (val a b) Q
def sp3 {α β γ : Type} (A : α → β → γ → List V) (pre : α → β → γ → Hp → Prop) (val : α → β → γ → V) : Sp := fun vs H Q _ => ∃ a b c, vs = A a b c ∧ pre a b c H ∧ Rt H (val a b c) Q
def sl1 {α : Type} (A : α → List V) (pre : α → Hp → Prop) (val : α → List V) : Sp := fun vs H Q _ => ∃ a, vs = A a ∧ pre a H ∧ Rl H (val a) Q
def sl2 {α β : Type} (A : α → β → List V) (pre : α → β → Hp → Prop) (val : α → β → List V) : Sp := fun vs H Q _ => ∃ a b, vs = A a b ∧ pre a b H ∧ Rl H (val a b) Q
def sl3 {α β γ : Type} (A : α → β → γ → List V) (pre : α → β → γ → Hp → Prop) (val : α → β → γ → List V) : Sp := fun vs H Q _ => ∃ a b c, vs = A a b c ∧ pre a b c H ∧ Rl H (val a b c) Q
section
variable {K : PySem.W.Frag} {σ : L2.St} {H H' : Hp} {ta : TA} {E : XK} {α β γ : Type}
theorem ev_c1 {A : α → List V} {pre : α → Hp → Prop} {val : α → V} {a : α} (h : EvA ta σ H (A a)) (hp : ∀ H1, Ex H H1 → pre a H1) : Ev (tCall (sp1 A pre val) [] E ta) σ H (val a) := fun H1 e Q q =>
  h H1 e _ fun H2 e2 => ⟨a, List.append_nil _, hp H2 (e.trans e2), fun H3 e3 => q H3 (e2.trans e3)⟩
theorem ev_c2 {A : α → β → List V} {pre : α → β → Hp → Prop} {val : α → β → V} {a : α} {b : β} (h : EvA ta σ H (A a b)) (hp : ∀ H1, Ex H H1 → pre a b H1) : Ev (tCall (sp2 A pre val) [] E ta) σ H (val a b) := fun H1 e Q q =>
  h H1 e _ fun H2 e2 => ⟨a, b, List.append_nil _, hp H2 (e.trans e2), fun H3 e3 => q H3 (e2.trans e3)⟩
theorem ev_c3 {A : α → β → γ → List V} {pre : α → β → γ → Hp → Prop} {val : α → β → γ → V} {a : α} {b : β} {c : γ} (h : EvA ta σ H (A a b c)) (hp : ∀ H1, Ex H H1 → pre a b c H1) : Ev (tCall (sp3 A pre val) [] E ta) σ H (val a b c) := fun H1 e Q q =>
  h H1 e _ fun H2 e2 => ⟨a, b, c, List.append_nil _, hp H2 (e.trans e2), fun H3 e3 => q H3 (e2.trans e3)⟩
theorem el_c1 {A : α → List V} {pre : α → Hp → Prop} {val : α → List V} {a : α} (h : EvA ta σ H (A a)) (hp : ∀ H1, Ex H H1 → pre a H1) : EvL (tCall (sl1 A pre val) [] E ta) σ H (val a) := fun H1 e Q q =>
  h H1 e _ fun H2 e2 => ⟨a, List.append_nil _, hp H2 (e.trans e2), fun p H3 hp e3 h3 => q p H3 (fresh_back e2 hp) (e2.trans e3) h3⟩
theorem el_c2 {A : α → β → List V} {pre : α → β → Hp → Prop} {val : α → β → List V} {a : α} {b : β} (h : EvA ta σ H (A a b)) (hp : ∀ H1, Ex H H1 → pre a b H1) : EvL (tCall (sl2 A pre val) [] E ta) σ H (val a b) := fun H1 e Q q =>
  h H1 e _ fun H2 e2 => ⟨a, b, List.append_nil _, hp H2 (e.trans e2), fun p H3 hp e3 h3 => q p H3 (fresh_back e2 hp) (e2.trans e3) h3⟩
theorem el_c3 {A : α → β → γ → List V} {pre : α → β → γ → Hp → Prop} {val : α → β → γ → List V} {a : α} {b : β} {c : γ} (h : EvA ta σ H (A a b c)) (hp : ∀ H1, Ex H H1 → pre a b c H1) : EvL (tCall (sl3 A pre val) [] E ta) σ H (val a b c) := fun H1 e Q q =>
  h H1 e _ fun H2 e2 => ⟨a, b, c, List.append_nil _, hp H2 (e.trans e2), fun p H3 hp e3 h3 => q p H3 (fresh_back e2 hp) (e2.trans e3) h3⟩
/-- a call one of whose arguments is a new list: f([..]) -/
theorem ev_c1L {τ : Type} {te : TE} {A : Addr → List τ → List V} {pre : Addr → List τ → Hp → Prop} {val : Addr → List τ → V} {v : V} {xs : List V} (h : EvL te σ H xs) (ns : List τ) (hA : ∀ p, A p ns = [.ref p]) (hp : ∀ p H1, Ex H H1 → H1 p = some (.lst xs) → pre p ns H1) (hv : ∀ p, val p ns = v) :
    Ev (tCall (sp2 A pre val) [] E (tCons te tNil)) σ H v := fun H1 e Q q =>
  h H1 e _ fun p H2 hn e2 h2 => ⟨p, ns, by rw [hA]; rfl, hp p H2 (e.trans e2) h2, fun H3 e3 => by
    rw [hv]
    exact q H3 (e2.trans e3)⟩
end

/-! ### a def that may be called by its name -/
structure Cl (P : Program) (w : World) (K : PySem.W.Frag) (mg : Str → Option Value) (base : Heap) (k : Nat) (x : Str) (sp : Sp) : Prop where
  ex : ∃ (f : Addr) (fd : FuncData) (ps : List Str), FnOk P w K mg base CX0 k f fd ps sp ∧ mg x = some (.ref f) ∧ PySem.W.keepIn K (.ref f) = true ∧ Binds K fd ps []
section
variable {P : Program} {w : World} {K : PySem.W.Frag} {mg : Str → Option Value} {base : Heap}
theorem cl_of {k : Nat} {x : Str} {sp : Sp} {st : Stmt} {f : Addr} {fd : FuncData} {ps : List Str} (ok : FnOk P w K mg base CX0 k f fd ps sp) (F : Fun K x x st f fd) (g : mg x = some (.ref f)) (b : Binds K fd ps []) : Cl P w K mg base k x sp := ⟨f, fd, ps, ok, g, F.kp, b⟩
variable {X : Cx} {k j : Nat} {x : Str} {sp : Sp} {p pos : Pos} {e : Expr} {es : List Expr} {t : TA}
theorem pe_cl (c : Cl X.prog X.w X.K X.mg X.base k x sp) (hr : Room j X.A) (hk : k ≤ j) (hg : Gl X x) (ha : PA X (e :: es) t)
    (hdb : (x == ("__debug__" : Str)) = false := by decide) (he : starEach (e :: es) X.env = (false, eval e X.env) :: starEach es X.env := by rfl) (hpl : (backTo pos (starEach es X.env)).any (·.1) = false := by rfl) :
    PE X (.Call (.Name x p) (e :: es) [] pos) (tCall sp [] E0 t) := by
  obtain ⟨f, fd, ps, F, hm, kp, b⟩ := c.ex
  exact pe_call F (hr.mono hk) hg hm kp b .nil pass0 ha hdb he hpl
theorem pe_cl0 (c : Cl X.prog X.w X.K X.mg X.base k x sp) (hr : Room j X.A) (hk : k ≤ j) (hg : Gl X x)
    (hdb : (x == ("__debug__" : Str)) = false := by decide) :
    PE X (.Call (.Name x p) [] [] pos) (tCall sp [] E0 tNil) := by
  obtain ⟨f, fd, ps, F, hm, kp, b⟩ := c.ex
  exact pe_call0 F (hr.mono hk) hg hm kp b .nil pass0 hdb
end
end Kn
/-! ### values, step by step -/
namespace Kn
open PySem PySem.Spec PyProof.Rows L2 Evl SX
section
variable {H : Hp}
theorem rv_eqI {a b : Int} : RV rEq (.int a) (.int b) H (.bl (decide (a = b))) := fun H1 _ _ q => ⟨rfl, by
  have e : decide (V.int a = V.int b) = decide (a = b) := by simp
  rw [e]
  exact q H1 (Ex.refl H1)⟩
theorem rv_neI {a b : Int} : RV rNe (.int a) (.int b) H (.bl (!decide (a = b))) := fun H1 _ _ q => ⟨rfl, by
  have e : decide (V.int a = V.int b) = decide (a = b) := by simp
  rw [e]
  exact q H1 (Ex.refl H1)⟩
theorem dec_S {a b : List Nat} : decide (V.str (S a) = V.str (S b)) = decide (a = b) := by
  by_cases h : a = b
  · subst h
    simp
  · rw [decide_eq_false h, decide_eq_false (fun e => h (S_inj (V.str.inj e)))]
theorem rv_eqS {a b : List Nat} : RV rEq (.str (S a)) (.str (S b)) H (.bl (decide (a = b))) := fun H1 _ _ q => ⟨rfl, by
  rw [dec_S]
  exact q H1 (Ex.refl H1)⟩
theorem rv_neS {a b : List Nat} : RV rNe (.str (S a)) (.str (S b)) H (.bl (!decide (a = b))) := fun H1 _ _ q => ⟨rfl, by
  rw [dec_S]
  exact q H1 (Ex.refl H1)⟩
theorem rv_le {a b : Int} : RV (rI0 fun i j => .bl (decide (i ≤ j))) (.int a) (.int b) H (.bl (decide (a ≤ b))) := rv_I0
theorem rv_lt {a b : Int} : RV (rI0 fun i j => .bl (decide (i < j))) (.int a) (.int b) H (.bl (decide (a < b))) := rv_I0
theorem rv_inS {c : Nat} {l : List Nat} : RV rInS (.str (S [c])) (.str (S l)) H (.bl (decide (c ∈ l))) := fun H1 _ _ q => ⟨c, S l, rfl, rfl, q H1 (Ex.refl H1)⟩
theorem rv_ninS {c : Nat} {l : List Nat} : RV rNotInS (.str (S [c])) (.str (S l)) H (.bl (!decide (c ∈ l))) := fun H1 _ _ q => ⟨c, S l, rfl, rfl, q H1 (Ex.refl H1)⟩
end
end Kn
/-! ### lists cut, texts cut, constants -/
namespace Kn
open PySem PySem.Spec PyProof.Rows L2 Evl SX
theorem cut_nat {α : Type} (xs : List α) (a b : Nat) : (xs.drop (min a xs.length)).take (min b xs.length - min a xs.length) = (xs.drop a).take (b - a) := by
  by_cases h : a ≤ xs.length
  · have e : min a xs.length = a := Nat.min_eq_left h
    rw [e, List.take_eq_take_iff, List.length_drop]
    omega
  · have e : xs.drop a = [] := List.drop_of_length_le (by omega)
    have e2 : xs.drop (min a xs.length) = [] := List.drop_of_length_le (by omega)
    rw [e, e2, List.take_nil, List.take_nil]
theorem cutV_nat {xs : List V} (a b : Nat) : cutV xs (some (a : Int)) (some (b : Int)) = (xs.drop a).take (b - a) := by
  unfold cutV
  rw [HT.sIx_nat, HT.sIx_nat]
  exact cut_nat xs a b
theorem cutV_map {τ : Type} {g : τ → V} {ns : List τ} {i j : Int} (a b : Nat) (hi : i = (a : Int)) (hj : j = (b : Int)) : cutV (ns.map g) (some i) (some j) = ((ns.drop a).take (b - a)).map g := by
  subst hi hj
  rw [cutV_nat, List.map_take, List.map_drop]
theorem join_nil : ∀ ys : List (List Nat), TL.joinL [] ys = ys.flatten
  | [] => rfl
  | [p] => by rw [List.flatten_cons, List.flatten_nil, List.append_nil]; rfl
  | p :: q :: r => by
    show p ++ ([] ++ TL.joinL [] (q :: r)) = _
    rw [join_nil (q :: r), List.nil_append, List.flatten_cons (l := p)]
section
variable {K : PySem.W.Frag} {σ : L2.St} {H H' : Hp} {ta tb te tc : TE} {t u : TT} {x y z v : V}
theorem ev_cS {x : Str} {l : List Nat} (h : x.cps.toList = l) : Ev (tC (.str x)) σ H (.str (S l)) := by
  rw [S1 x h]
  exact ev_c
theorem el_slN {τ : Type} {g : τ → V} {ns : List τ} {i j : Int} {p : Addr} {to tp : TO} (h : Ev te σ H (.ref p)) (h1 : EvO to σ H (some i)) (h2 : EvO tp σ H (some j)) (hs : SqL K H p (ns.map g)) (a b : Nat) (hi : i = (a : Int)) (hj : j = (b : Int)) :
    EvL (tSl (rSlL K) te to tp) σ H (((ns.drop a).take (b - a)).map g) := by
  rw [← cutV_map a b hi hj]
  exact el_sl h h1 h2 hs
theorem ev_slTo {to tp : TO} {l : List Nat} {i : Int} (h : Ev te σ H (.str (S l))) (h1 : EvO to σ H none) (h2 : EvO tp σ H (some i)) (hz : l.length ≤ 100000) (hi : 0 ≤ i) : Ev (tSl rSlS te to tp) σ H (.str (S (l.take i.toNat))) := by
  have k := ev_slS h h1 h2 hz
  rw [C8.cutS_slice, slice_to hi] at k
  exact k
theorem ev_slFrom {to tp : TO} {l : List Nat} {i : Int} (h : Ev te σ H (.str (S l))) (h1 : EvO to σ H (some i)) (h2 : EvO tp σ H none) (hz : l.length ≤ 100000) (hi : 0 ≤ i) : Ev (tSl rSlS te to tp) σ H (.str (S (l.drop i.toNat))) := by
  have k := ev_slS h h1 h2 hz
  rw [C8.cutS_slice, slice_from hi] at k
  exact k
theorem ev_isiB {b : Bool} (ha : Ev ta σ H (.bl b)) : Ev (tCB (rIsi K) (tCons ta (tCons (tC (.ty "bool")) tNil))) σ H (.bl true) := ev_isi (T := "bool") ha (.base (.bl b)) (by decide +kernel) fun _ _ => .base (.bl b)
/-- == of two lists of data -/
theorem eqv_lists {xs ys : List PyData} (h : PyData.eqv (.list xs) (.list ys) = b) : PyData.eqv (.list xs) (.list ys) = b := h
end
end Kn
namespace Kn
open PySem PySem.Spec PyProof.Rows L2 Evl SX
section
variable {K : PySem.W.Frag} {σ : L2.St} {H H' : Hp} {ta tb te tc : TE} {t u : TT} {x y z v : V} {D : Ends} {tu tw tz : TS}
/-- an if whose two ways meet again -/
theorem q_ifM {b : Bool} (M : L2.St → Hp → Prop) (h : EvT t σ H b) (h1 : b = true → ∀ H1, Ex H H1 → ∀ N : L2.St → Hp → Prop, (∀ σ' H', M σ' H' → N σ' H') → tu { D with nx := N } σ H1)
    (h2 : b = false → ∀ H1, Ex H H1 → ∀ N : L2.St → Hp → Prop, (∀ σ' H', M σ' H' → N σ' H') → tw { D with nx := N } σ H1) (k : ∀ σ' H', M σ' H' → tz D σ' H') : tSeq (tIfS t tu tw) tz D σ H :=
  s_if (D := { D with nx := tz D }) h (fun hb H1 e => h1 hb H1 e _ k) (fun hb H1 e => h2 hb H1 e _ k)
theorem s_next (h : D.nx σ H) : tNext D σ H := h
theorem eqD_true {p q : Addr} {xs : List V} {ds : List PyData} (hp : SqL K H p xs) (hq : SqL K H q xs) (hd : ∀ H1, Ex H H1 → DpAll K H1 xs ds) (hs : SeqAt.shaped (.list ds) = true) (hl : PyData.eqv (.list ds) (.list ds) = true) : RV (rEqD K) (.ref p) (.ref q) H (.bl true) := fun H1 e Q k =>
  ⟨.list ds, .list ds, .lst (ex_l e hp) (hd H1 e), .lst (ex_l e hq) (hd H1 e), hs, hs, by rw [hl]; exact k H1 (Ex.refl H1)⟩
end
end Kn
/-! ### rpartition; joins; more of lists -/
namespace Kn
open PySem PySem.Spec PyProof.Rows L2 Evl SX
def rRpart : V → List V → Hp → VK → Prop := fun x xs H Q => ∃ a b, x = .str a ∧ xs = [.str b] ∧ (b.length == 0) = false ∧ a.length ≤ sizeLine ∧ ∀ p, H p = none → Q (.ref p) (upd H p (.tup [.str (Txt.rpartition a b).1, .str (Txt.rpartition a b).2.1, .str (Txt.rpartition a b).2.2]))
theorem mt_rpartition {X : Cx} : MtR X "str.rpartition" rRpart := by
  intro pins s σ H x xs v us Q I rx rs h
  obtain ⟨a, b, rfl, rfl, hb, hz, h⟩ := h
  obtain ⟨t, rfl⟩ := rx
  cases rs with
  | cons r1 rs =>
    cases rs
    obtain ⟨u, rfl⟩ := r1
    refine call_meets F.slot_str_rpartition (typeIs_str _ _ _) F.entry_str_rpartition (F.args_str_rpartition_2 _ _) (meets_str_rpartition a b t u hb hz) ?_
    unfold Txt.rpartition at h
    revert h
    cases Builtin.Str.lastOccurrence a b 0 a.length with
    | none => intro h; exact laid_parts I h
    | some i => intro h; exact laid_parts I h
section
variable {K : PySem.W.Frag} {σ : L2.St} {H H' : Hp} {ta tb te tc : TE} {t u : TT} {x y z v : V}
theorem ev_rpart0 {l m : List Nat} (ha : Ev ta σ H (.str (S l))) (hb : Ev tb σ H (.str (S m))) (hm : m ≠ []) (hl : l.length ≤ 100000) : Ev (tOp (rIxT K) (tM1 rRpart ta tb) (tC (.int 0))) σ H (.str (Txt.rpartition (S l) (S m)).1) := fun H1 e Q q =>
  ha H1 e _ fun H2 e2 => ⟨⟨_, rfl⟩, hb H2 (e.trans e2) _ fun H3 e3 => ⟨S l, S m, rfl, rfl, by
    rw [S_len]
    cases m with
    | nil => exact absurd rfl hm
    | cons a r => rfl, by rw [S_len]; exact sz_of hl, fun p hp =>
      ⟨p, _, 0, _, rfl, rfl, st_of upd_same, atI_nat (j := 0) rfl, q _ ((e2.trans e3).trans (Ex.new hp))⟩⟩⟩
theorem ev_joinV {s : List Nat} {ys : List (List Nat)} {p : Addr} (hs : Ev ta σ H (.str (S s))) (hl : Ev tb σ H (.ref p)) (hp : SqL K H p (ys.map fun l => V.str (S l))) (hz : (ys.map (·.length)).sum + ys.length * s.length ≤ 16777216) : Ev (tM1 (rJoin K) ta tb) σ H (.str (S (TL.joinL s ys))) := fun H1 e Q q =>
  hs H1 e _ fun H2 e2 => ⟨⟨_, rfl⟩, hl H2 (e.trans e2) _ fun H3 e3 => ⟨S s, p, ys.map S, rfl, rfl, .inl (by rw [List.map_map]; exact ex_l ((e.trans e2).trans e3) hp), by
    rw [SX.lens, List.length_map, S_len]
    exact hz, by
    rw [SX.join_S]
    exact q H3 (e2.trans e3)⟩⟩
theorem el_slTo {τ : Type} {g : τ → V} {ns : List τ} {j : Int} {p : Addr} {to tp : TO} (h : Ev te σ H (.ref p)) (h1 : EvO to σ H none) (h2 : EvO tp σ H (some j)) (hs : SqL K H p (ns.map g)) (b : Nat) (hj : j = (b : Int)) :
    EvL (tSl (rSlL K) te to tp) σ H ((ns.take b).map g) := by
  have e : cutV (ns.map g) none (some j) = (ns.take b).map g := by
    subst hj
    have k := cutV_nat (xs := ns.map g) 0 b
    unfold cutV at k ⊢
    rw [HT.sIx_none, HT.sIx_nat]
    rw [HT.sIx_nat, HT.sIx_nat, Nat.zero_min] at k
    rw [k, List.drop_zero, Nat.sub_zero, List.map_take]
  rw [← e]
  exact el_sl h h1 h2 hs
theorem ev_isiL {p : Addr} {xs : List V} (ha : Ev ta σ H (.ref p)) (h : H p = some (.lst xs)) : Ev (tCB (rIsi K) (tCons ta (tCons (tC (.ty "list")) tNil))) σ H (.bl true) := ev_isi (T := "list") ha (.base (.lst h)) (by decide +kernel) fun _ e => .base (.lst (e _ _ h))
theorem ev_isiS {l : Str} (ha : Ev ta σ H (.str l)) : Ev (tCB (rIsi K) (tCons ta (tCons (tC (.ty "str")) tNil))) σ H (.bl true) := ev_isi (T := "str") ha (.base (.str l)) (by decide +kernel) fun _ _ => .base (.str l)
theorem rv_ge {a b : Int} : RV (rI0 fun i j => .bl (decide (j ≤ i))) (.int a) (.int b) H (.bl (decide (b ≤ a))) := rv_I0
theorem rv_gt {a b : Int} : RV (rI0 fun i j => .bl (decide (j < i))) (.int a) (.int b) H (.bl (decide (b < a))) := rv_I0
theorem rv_pow {i j : Int} (h : CPow i j) : RV (rI CPow fun i j => .int (i ^ j.toNat)) (.int i) (.int j) H (.int (i ^ j.toNat)) := rv_I h
end
theorem joinL_snoc (s x : List Nat) : ∀ {l : List (List Nat)}, l ≠ [] → TL.joinL s (l ++ [x]) = TL.joinL s l ++ (s ++ x)
  | [], h => absurd rfl h
  | [p], _ => rfl
  | p :: q :: r, _ => by
    show p ++ (s ++ TL.joinL s ((q :: r) ++ [x])) = (p ++ (s ++ TL.joinL s (q :: r))) ++ (s ++ x)
    rw [joinL_snoc s x (List.cons_ne_nil q r)]
    simp only [List.append_assoc]
theorem joinL_ne {s p : List Nat} {r : List (List Nat)} (h : p ≠ []) : TL.joinL s (p :: r) ≠ [] := by
  cases r with
  | nil => exact h
  | cons q r =>
    intro z
    have : p ++ (s ++ TL.joinL s (q :: r)) = [] := z
    exact h (List.append_eq_nil_iff.mp this).1
theorem joinL_len (s : List Nat) : ∀ l : List (List Nat), (TL.joinL s l).length ≤ (l.map (·.length)).sum + l.length * s.length
  | [] => Nat.zero_le _
  | [p] => by
    show p.length ≤ p.length + 0 + 1 * s.length
    omega
  | p :: q :: r => by
    have ih := joinL_len s (q :: r)
    show (p ++ (s ++ TL.joinL s (q :: r))).length ≤ p.length + ((q :: r).map (·.length)).sum + ((q :: r).length + 1) * s.length
    rw [List.length_append, List.length_append, Nat.succ_mul]
    omega
theorem sum_le {l : List (List Nat)} {n : Nat} (h : ∀ p ∈ l, p.length ≤ n) : (l.map (·.length)).sum ≤ l.length * n := by
  induction l with
  | nil => simp
  | cons p r ih =>
    have h1 := h p List.mem_cons_self
    have h2 := ih fun q hq => h q (List.mem_cons_of_mem _ hq)
    rw [List.map_cons, List.sum_cons, List.length_cons, Nat.succ_mul]
    omega
theorem at_one {l : List Nat} {c i : Nat} : StrLaws.At (S l) (S [c]) (S l).length i ↔ l[i]? = some c := by
  rw [TL.at_iff (x := S l) (y := S [c]) (List.cons_ne_nil _ _)]
  show ((l.drop i).take 1 == [c]) = true ↔ l[i]? = some c
  rw [beq_iff_eq]
  constructor
  · intro h
    have e := congrArg (fun z : List Nat => z[0]?) h
    simpa using e
  · intro h
    obtain ⟨hi, e⟩ := List.getElem?_eq_some_iff.mp h
    rw [List.drop_eq_getElem_cons hi, e]
    rfl
theorem rpart_none {l : List Nat} {c : Nat} (h : c ∉ l) : (Txt.rpartition (S l) (S [c])).1 = S [] := by
  unfold Txt.rpartition
  rcases StrLaws.last_spec (S l) (S [c]) with ⟨h0, hn⟩ | ⟨i, h0, hi, hn⟩
  · rw [h0]
    rfl
  · exact absurd (List.mem_of_getElem? (at_one.mp hi)) h
theorem rpart_some {p q : List Nat} {c : Nat} (h : c ∉ q) : (Txt.rpartition (S (p ++ c :: q)) (S [c])).1 = S p := by
  have hp : (p ++ c :: q)[p.length]? = some c := by simp
  unfold Txt.rpartition
  rcases StrLaws.last_spec (S (p ++ c :: q)) (S [c]) with ⟨h0, hn⟩ | ⟨i, h0, hi, hn⟩
  · exact absurd (at_one.mpr hp) (hn _)
  · rw [h0]
    have e : i = p.length := by
      have h1 := at_one.mp hi
      rcases Nat.lt_trichotomy i p.length with z | z | z
      · exact absurd (at_one.mpr hp) (hn _ z)
      · exact z
      · rw [List.getElem?_append_right (by omega)] at h1
        obtain ⟨k, hk⟩ : ∃ k, i - p.length = k + 1 := ⟨i - p.length - 1, by omega⟩
        rw [hk, List.getElem?_cons_succ] at h1
        exact absurd (List.mem_of_getElem? h1) h
    subst e
    show PySem.Builtin.Str.strSub (S (p ++ c :: q)) 0 p.length = S p
    refine TL.ext_tl ?_
    rw [TL.tl_strSub]
    show ((p ++ c :: q).drop 0).take (p.length - 0) = p
    simp
end Kn
/-! ### rules that name the written part: for the elements of a comprehension -/
namespace Kn
open PySem PySem.Spec PyProof.Rows L2 Evl SX
section
variable {X : Cx} {K : PySem.W.Frag}
theorem sl_listK (h : X.K = K) : SlR X (rSlL K) := by subst h; exact sl_list
theorem sl_tupK (h : X.K = K) : SlR X (rSlT K) := by subst h; exact sl_tup
theorem ix_listK (h : X.K = K) : IxR X (rIxL K) := by subst h; exact ix_list
theorem ix_tupK (h : X.K = K) : IxR X (rIxT K) := by subst h; exact ix_tup
theorem cr_lenSeqK (h : X.K = K) : CallR X (.builtin "len") (rLenS K) := by subst h; exact cr_lenSeq
theorem cr_isiK (h : X.K = K) : CallR X (.builtin "isinstance") (rIsi K) := by subst h; exact cr_isi
theorem cr_allK (h : X.K = K) (hc : X.calm = true) : CallR X (.builtin "all") (rAll K) := by subst h; exact cr_all hc
theorem op_in_seqK (h : X.K = K) : OpR X (compareOp .In) (rIn K false) := by subst h; exact op_in_seq
theorem op_notIn_seqK (h : X.K = K) : OpR X (compareOp .NotIn) (rIn K true) := by subst h; exact op_notIn_seq
theorem pe_joinK {e : Expr} {to te : TE} (hK : X.K = K) (h : PE X e (tM1 (fun x xs H Q => ∃ a p, ∃ ys : List Str, x = .str a ∧ xs = [.ref p] ∧ (SqL X.K H p (ys.map V.str) ∨ SqT X.K H p (ys.map V.str)) ∧ (ys.map (·.length)).sum + ys.length * a.length ≤ 16777216 ∧ Q (.str (Txt.join a ys)) H) to te)) : PE X e (tM1 (rJoin K) to te) := by
  subst hK
  exact h
end
end Kn
/-! ### texts: split, count, startswith, replace; loops over signs -/
namespace Kn
open PySem PySem.Spec PyProof.Rows L2 Evl SX
def rSplit : V → List V → Hp → VK → Prop := fun x xs H Q => ∃ a b, x = .str a ∧ xs = [.str b] ∧ (b.length == 0) = false ∧ a.length + 2 ≤ sizeLine ∧ rNewStrs (Txt.split a b) H Q
theorem mt_split {X : Cx} : MtR X "str.split" rSplit := L2.mt_split
def rCount : V → List V → Hp → VK → Prop := fun x xs H Q => ∃ a b, x = .str a ∧ xs = [.str b] ∧ Q (.int (Txt.count a b)) H
theorem mt_count {X : Cx} : MtR X "str.count" rCount := L2.mt_count
def rStarts : V → List V → Hp → VK → Prop := fun x xs H Q => ∃ a b, x = .str a ∧ xs = [.str b] ∧ Q (.bl (Txt.startswith a b)) H
theorem mt_startswith {X : Cx} : MtR X "str.startswith" rStarts := L2.mt_startswith
def rEnds : V → List V → Hp → VK → Prop := fun x xs H Q => ∃ a b, x = .str a ∧ xs = [.str b] ∧ Q (.bl (Txt.endswith a b)) H
theorem mt_endswith {X : Cx} : MtR X "str.endswith" rEnds := L2.mt_endswith
/-- l cut at each c -/
def cut1 (c : Nat) (l : List Nat) : List (List Nat) := TL.spl [c] 0 [] l
theorem starts_one {l : List Nat} {c : Nat} : Txt.startswith (S l) (S [c]) = decide (l[0]? = some c) := by
  have h : StrLaws.At (S l) (S [c]) (S l).length 0 ↔ l[0]? = some c := at_one
  unfold Txt.startswith
  rw [Bool.eq_iff_iff, Bool.and_eq_true, decide_eq_true_eq, decide_eq_true_eq]
  exact h
theorem count_one {l : List Nat} {c : Nat} : Txt.count (S l) (S [c]) = cnt c l := count_is (S l) c
theorem spl_map {c : Nat} {f : Nat → Nat} (hc : ∀ d, f d = c ↔ d = c) : ∀ (l acc : List Nat), TL.spl [c] 0 (acc.map f) (l.map f) = (TL.spl [c] 0 acc l).map (List.map f)
  | [], acc => rfl
  | d :: r, acc => by
    by_cases e : d = c
    · have h1 : TL.pre [c] (d :: r) = true := by
        subst e
        exact TL.pre_self [d] r
      have h2 : TL.pre [c] (f d :: r.map f) = true := by
        have e2 := (hc d).mpr e
        rw [e2]
        exact TL.pre_self [c] (r.map f)
      rw [List.map_cons, TL.spl_hit h1, TL.spl_hit h2, List.map_cons]
      exact congrArg (fun z => acc.map f :: z) (spl_map hc r [])
    · have h1 : TL.pre [c] (d :: r) = false := TL.pre_of_head [] r e
      have h2 : TL.pre [c] (f d :: r.map f) = false := TL.pre_of_head [] _ fun z => e ((hc d).mp z)
      rw [List.map_cons, TL.spl_miss h1, TL.spl_miss h2, ← spl_map hc r (acc ++ [d]), List.map_append]
      rfl
theorem cut1_map {c : Nat} {f : Nat → Nat} (hc : ∀ d, f d = c ↔ d = c) (l : List Nat) : cut1 c (l.map f) = (cut1 c l).map (List.map f) := spl_map hc l []
/-- each sign but c is in a part -/
theorem spl_mem {c d : Nat} (hd : d ≠ c) : ∀ (l acc : List Nat), d ∈ acc ∨ d ∈ l → ∃ p ∈ TL.spl [c] 0 acc l, d ∈ p
  | [], acc, h => by
    rcases h with h | h
    · exact ⟨acc, List.mem_cons_self, h⟩
    · exact nomatch h
  | e :: r, acc, h => by
    by_cases ec : e = c
    · have h1 : TL.pre [c] (e :: r) = true := by
        subst ec
        exact TL.pre_self [e] r
      rw [TL.spl_hit h1]
      rcases h with h | h
      · exact ⟨acc, List.mem_cons_self, h⟩
      · rcases List.mem_cons.mp h with z | z
        · exact absurd (z.trans ec) hd
        · obtain ⟨p, hp, hm⟩ := spl_mem hd r [] (.inr z)
          exact ⟨p, List.mem_cons_of_mem _ hp, hm⟩
    · rw [TL.spl_miss (TL.pre_of_head [] r ec)]
      refine spl_mem hd r (acc ++ [e]) ?_
      rcases h with h | h
      · exact .inl (List.mem_append_left _ h)
      · rcases List.mem_cons.mp h with z | z
        · exact .inl (List.mem_append_right _ (by rw [z]; exact List.mem_cons_self))
        · exact .inr z
theorem cut1_mem {c d : Nat} (hd : d ≠ c) {l : List Nat} (h : d ∈ l) : ∃ p ∈ cut1 c l, d ∈ p := spl_mem hd l [] (.inr h)
theorem spl_bound (c : Nat) : ∀ (l acc : List Nat), (TL.spl [c] 0 acc l).length ≤ l.length + 1 ∧ ∀ p ∈ TL.spl [c] 0 acc l, p.length ≤ acc.length + l.length
  | [], acc => ⟨Nat.le_refl _, fun p hp => by rw [List.mem_singleton.mp hp]; exact Nat.le_add_right _ _⟩
  | e :: r, acc => by
    by_cases ec : e = c
    · have h1 : TL.pre [c] (e :: r) = true := by
        subst ec
        exact TL.pre_self [e] r
      have ih := spl_bound c r []
      rw [TL.spl_hit h1]
      refine ⟨Nat.succ_le_succ ih.1, fun p hp => ?_⟩
      rcases List.mem_cons.mp hp with z | z
      · rw [z]
        omega
      · have := ih.2 p z
        rw [List.length_cons]
        simp at this
        omega
    · have ih := spl_bound c r (acc ++ [e])
      rw [TL.spl_miss (TL.pre_of_head [] r ec)]
      refine ⟨by have := ih.1; rw [List.length_cons]; omega, fun p hp => ?_⟩
      have := ih.2 p hp
      rw [List.length_append] at this
      rw [List.length_cons]
      simp at this
      omega
theorem cut1_len (c : Nat) (l : List Nat) : (cut1 c l).length ≤ l.length + 1 := (spl_bound c l []).1
theorem cut1_part {c : Nat} {l p : List Nat} (h : p ∈ cut1 c l) : p.length ≤ l.length := by
  have := (spl_bound c l []).2 p h
  simpa using this
theorem repl_one {c d : Nat} : ∀ l : List Nat, StrLaws.replL [c] [d] l = l.map fun e => if e = c then d else e
  | [] => StrLaws.replL_nil
  | e :: r => by
    by_cases h : e = c
    · subst h
      rw [StrLaws.replL_hit (List.cons_ne_nil _ _) rfl, List.map_cons, if_pos rfl, ← repl_one r]
      rfl
    · rw [StrLaws.replL_miss (y := [c]) (show ¬ (e :: r).take [c].length = [c] from fun z => h (List.cons.inj (show e :: r.take 0 = [c] from z)).1), List.map_cons, if_neg h, repl_one r]
theorem replace_S {l : List Nat} {c d : Nat} : Txt.replace (S l) (S [c]) (S [d]) = S (l.map fun e => if e = c then d else e) := by
  refine TL.ext_tl ?_
  show (Txt.replace (S l) (S [c]) (S [d])).cps.toList = _
  exact (StrLaws.replace_list (show 1 ≤ (S [c]).length from Nat.le_refl 1)).trans (repl_one l)
section
variable {K : PySem.W.Frag} {σ : L2.St} {H H' : Hp} {ta tb te tc : TE} {t u : TT} {x y z v : V} {D : Ends} {tu tz : TS}
theorem el_split {l : List Nat} {c : Nat} (ha : Ev ta σ H (.str (S l))) (hb : Ev tb σ H (.str (S [c]))) (hc : c < 256) (hl : l.length ≤ 90000) : EvL (tM1 rSplit ta tb) σ H ((cut1 c l).map fun p => V.str (S p)) := fun H1 e Q q =>
  ha H1 e _ fun H2 e2 => ⟨⟨_, rfl⟩, hb H2 (e.trans e2) _ fun H3 e3 => ⟨S l, S [c], rfl, rfl, rfl, sz_of (by rw [S_len]; omega), fun p hp => by
    rw [SX.split_S (List.cons_ne_nil _ _) (by simp [hc]), List.map_map]
    exact q p _ (fresh_back (e2.trans e3) hp) ((e2.trans e3).trans (Ex.new hp)) upd_same⟩⟩
theorem ev_count {l : List Nat} {c : Nat} (ha : Ev ta σ H (.str (S l))) (hb : Ev tb σ H (.str (S [c]))) : Ev (tM1 rCount ta tb) σ H (.int (cnt c l)) := fun H1 e Q q =>
  ha H1 e _ fun H2 e2 => ⟨⟨_, rfl⟩, hb H2 (e.trans e2) _ fun H3 e3 => ⟨S l, S [c], rfl, rfl, by
    rw [count_one]
    exact q H3 (e2.trans e3)⟩⟩
theorem ev_starts {l : List Nat} {c : Nat} (ha : Ev ta σ H (.str (S l))) (hb : Ev tb σ H (.str (S [c]))) : Ev (tM1 rStarts ta tb) σ H (.bl (decide (l[0]? = some c))) := fun H1 e Q q =>
  ha H1 e _ fun H2 e2 => ⟨⟨_, rfl⟩, hb H2 (e.trans e2) _ fun H3 e3 => ⟨S l, S [c], rfl, rfl, by
    rw [starts_one]
    exact q H3 (e2.trans e3)⟩⟩
theorem ev_replC {l : List Nat} {s1 s2 : Str} {c d : Nat} (ha : Ev ta σ H (.str (S l))) (h1 : s1 = S [c]) (h2 : s2 = S [d]) (hl : l.length ≤ 100000) : Ev (CwR.tReplC ta s1 s2) σ H (.str (S (l.map fun e => if e = c then d else e))) := fun H1 e Q q => by
  subst h1 h2
  refine ha H1 e _ fun H2 e2 => ⟨S l, rfl, ?_, ?_⟩
  · rw [S_len, S_len]
    show l.length + (l.length + 1) * 1 ≤ 16777216
    omega
  · rw [replace_S]
    exact q H2 e2
theorem s_forS {l : List Nat} {ts : TE} {j : Nat} (h : Ev ts σ H (.str (S l))) (Pv : Nat → L2.St → Hp → Prop) (h0 : ∀ H1, Ex H H1 → Pv 0 σ H1)
    (hs : ∀ (i c : Nat) σ' H', l[i]? = some c → Pv i σ' H' → tu { D with nx := Pv (i + 1), ct := Pv (i + 1), bk := D.nx } (σ'.set j (some (.str (S [c])))) H') (hd : ∀ σ' H', Pv l.length σ' H' → D.nx σ' H') : tFor (iStr ts) (gName j) tu D σ H :=
  h H (Ex.refl H) _ fun H1 e => ⟨S l, rfl, for_it walk_str Pv (h0 H1 e) (fun _ _ _ _ _ => trivial) (fun i x σ' H2 H3 hi p y => by
    obtain ⟨rfl, c, hc, rfl⟩ := y
    have hc' : l[i]? = some c := by simpa [S] using hc
    exact hs i c σ' _ hc' p) (fun σ' H2 p => by
    have hl : (S l).cps.size = l.length := by simp [S]
    rw [hl] at p
    exact hd σ' H2 p)⟩
theorem q_forS {l : List Nat} {ts : TE} {j : Nat} (h : Ev ts σ H (.str (S l))) (Pv : Nat → L2.St → Hp → Prop) (h0 : ∀ H1, Ex H H1 → Pv 0 σ H1)
    (hs : ∀ (i c : Nat) σ' H', l[i]? = some c → Pv i σ' H' → tu { D with nx := Pv (i + 1), ct := Pv (i + 1), bk := tz D } (σ'.set j (some (.str (S [c])))) H') (hd : ∀ σ' H', Pv l.length σ' H' → tz D σ' H') : tSeq (tFor (iStr ts) (gName j) tu) tz D σ H :=
  s_forS (D := { D with nx := tz D }) h Pv h0 hs hd
end
/-! ### an expression behind which a token is out -/
section
variable {X : Cx} {a b e o : Expr} {ta tb te to : TE} {pos apos : Pos}
def PEb (X : Cx) (e : Expr) (t : TE) : Prop := ∀ (pins : List (Addr × Obj)) (s : Shared) (σ : L2.St) (H : Hp) (Q : VK), Inv X pins σ H s → t σ H Q → wpAny (model X.prog X.w) X.A (eval e X.env) (fun v s1 => 1 ≤ s1.toks ∧ EP X pins σ Q v s1) X.xe s
theorem keep_tok {α : Type} {t : Sem α} {Q : α → Shared → Prop} {E : Value → Shared → Prop} {P : Program} {w : World} {A : Around} {s : Shared} (h0 : 1 ≤ s.toks) (h : wpAny (model P w) A t Q E s) : wpAny (model P w) A t (fun a s' => 1 ≤ s'.toks ∧ Q a s') E s :=
  wpAny_mono (PySem.wpAny_toks h) (fun _ _ q => ⟨Nat.le_trans h0 q.1, q.2⟩) fun _ _ z => z.2
theorem peb_str {x : Str} {j : Nat} : PEb X (.Constant (.str x) j pos) (tC (.str x)) := fun _ s _ H _ I h => Calls.Constant_str ⟨by show 1 ≤ s.toks + 1; omega, .str x, H, I.tok _, ⟨_, rfl⟩, h⟩
theorem peb_m1 {id : String} {name : Str} {r : V → List V → Hp → VK → Prop} (slot : Slot "str" name id) (ty : typeOf (.builtin id) = pure (.type "method_descriptor")) (rule : MtR X id r) (ho : PE X o to) (he : PEb X e te)
    (hs : starEach [e] X.env = [(false, eval e X.env)] := by rfl) (hbase : attributeBase o name X.env (eval o X.env) = eval o X.env := by rfl) (hline : (apos.endLine == pos.line) = true := by rfl) :
    PEb X (.Call (.Attribute o name apos) [e] [] pos) (tM1 r to te) := by
  intro pins s σ H Q I h
  refine PySem.Call_method1 hbase hs hline (thn (ho.run pins s σ H _ I h) fun v s1 ⟨x, H1, I1, r1, q1⟩ => ?_)
  obtain ⟨⟨a, rfl⟩, q1⟩ := q1
  obtain ⟨t, rfl⟩ := _root_.id r1
  refine ⟨"str", _, F.plainAttrs_str, slot, ty, typeIs_str _ _ _, (fun _ e => nomatch e), Calls.callWith_builtin rfl (Calls.evalArgs_plain (Calls.spliced_cons ?_))⟩
  exact thn (he pins s1 σ H1 _ I1 q1) fun u s2 ⟨h2, y, H2, I2, r2, q2⟩ => Calls.spliced_nil (keep_tok h2 (rule pins s2 σ H2 _ [y] _ [u] Q I2 r1 (.cons r2 .nil) q2))
theorem peb_cmpR {op : CmpOp} {r : R2} (ho : OpR X (compareOp op) r) (ha : PEb X a ta) (hb : PE X b tb) (hm : behindInMarks op b = false) : PEb X (.Compare a [op] [b] pos) (tOp r ta tb) := by
  intro pins s σ H Q I h
  refine wpAny_Compare1 (thn (ha pins s σ H _ I h) fun v s1 ⟨h1, x, H1, I1, r1, q1⟩ => ?_) hm
  refine thn (keep_tok h1 (hb.run pins s1 σ H1 _ I1 q1)) fun u s2 ⟨h2, y, H2, I2, r2, q2⟩ => ?_
  exact keep_tok h2 (ho pins s2 σ H2 x y v u Q I2 r1 r2 q2)
theorem pe_andB (ha : PEb X a ta) (hb : L2.PET X b tb) : PE X (.BoolOp .And [a, b] pos) (tAndV ta tb) := by
  refine ⟨fun pins s σ H Q I h => ?_⟩
  refine BoolOp_and (thn (ha pins s σ H _ I h) fun v s1 ⟨h1, x, H1, I1, r1, q1⟩ => ?_)
  obtain ⟨c, rfl, q1⟩ := q1
  cases r1
  refine wpAny_truthy_bool ?_
  cases c with
  | true => exact BoolOp_one (hb pins s1 σ H1 Q h1 I1 q1)
  | false => exact ⟨.bl false, H1, I1, rfl, q1⟩
theorem pet_cl {k j : Nat} {x : Str} {sp : Sp} {p : Pos} {es : List Expr} {t : TA} (c : Cl X.prog X.w X.K X.mg X.base k x sp) (hr : Room j X.A) (hk : k ≤ j) (hg : Gl X x) (ha : L2.PAT X (e :: es) t)
    (hdb : (x == ("__debug__" : Str)) = false := by decide) (he : starEach (e :: es) X.env = (false, eval e X.env) :: starEach es X.env := by rfl) (hpl : (backTo pos (starEach es X.env)).any (·.1) = false := by rfl) :
    L2.PET X (.Call (.Name x p) (e :: es) [] pos) (tCall sp [] E0 t) := by
  intro pins s σ H Q h0 I h
  obtain ⟨f, fd, ps, F, hm, kp, b⟩ := c.ex
  refine wpAny_Call_Name_kw (ld_glob I hg hm ?_ hdb)
  refine PySem.W.callWith_K (h₀ := X.base) I.ok.mod.kin kp (thn (ha pos pins s σ H _ h0 I h) fun us s1 ⟨vs, H1, I1, r, q⟩ => ⟨I1.kIn, ?_⟩) he hpl
  exact run_fn F (hr.mono hk) b .nil pass0 I1 r q
end
end Kn
/-! ### methods, classes, dicts with text keys -/
namespace Kn
open PySem PySem.Spec PyProof.Rows L2 Evl SX
structure Mt (P : Program) (w : World) (K : PySem.W.Frag) (mg : Str → Option Value) (base : Heap) (k : Nat) (C : Addr) (m : Str) (sp : Sp) : Prop where
  ex : ∃ (f : Addr) (fd : FuncData) (ps : List Str), Cls K C ∧ Meth K C m f ∧ FnOk P w K mg base CX0 k f fd ps sp ∧ Binds K fd ps []
structure Mkr (P : Program) (w : World) (K : PySem.W.Frag) (mg : Str → Option Value) (base : Heap) (k : Nat) (x : Str) (C : Addr) (sp : Sp) : Prop where
  ex : ∃ (f : Addr) (fd : FuncData) (ps : List Str), Mk K C f ∧ FnOk P w K mg base CX0 k f fd ps sp ∧ mg x = some (.ref C) ∧ Binds K fd ps []
section
variable {X : Cx} {k j : Nat} {C : Addr} {x m : Str} {sp : Sp} {p pos apos : Pos} {e o : Expr} {es : List Expr} {ta : TE} {t : TA}
theorem pe_mt {pl : Sem Bool} (c : Mt X.prog X.w X.K X.mg X.base k C m sp) (hr : Room j X.A) (hk : k ≤ j) (he : PE X o ta) (ha : PA X (e :: es) t)
    (hst : starEach (e :: es) X.env = (false, eval e X.env) :: starEach es X.env := by rfl) (hpl : (backTo pos (starEach es X.env)).any (·.1) = false := by rfl)
    (ht : eval (.Call (.Attribute o m apos) (e :: es) [] pos) X.env = (do
      let ov ← eval o X.env
      standAt apos.atName
      let (f, first) ← holding [ov] (getMethod ov m pl)
      callWith pos f first (backTo pos (starEach (e :: es) X.env)) (backToKw pos (keywordEach [] X.env))) := by rfl) :
    PE X (.Call (.Attribute o m apos) (e :: es) [] pos) (tMeth C m sp [] E0 ta t) := by
  obtain ⟨f, fd, ps, hc, hm, F, b⟩ := c.ex
  exact pe_meth (pl := pl) he hc hm F (hr.mono hk) b .nil pass0 ha hst hpl ht
theorem pe_mt0 {pl : Sem Bool} (c : Mt X.prog X.w X.K X.mg X.base k C m sp) (hr : Room j X.A) (hk : k ≤ j) (he : PE X o ta)
    (ht : eval (.Call (.Attribute o m apos) [] [] pos) X.env = (do
      let ov ← eval o X.env
      standAt apos.atName
      let (f, first) ← holding [ov] (getMethod ov m pl)
      callWith pos f first (backTo pos (starEach [] X.env)) (backToKw pos (keywordEach [] X.env))) := by rfl) :
    PE X (.Call (.Attribute o m apos) [] [] pos) (tMeth C m sp [] E0 ta tNil) := by
  obtain ⟨f, fd, ps, hc, hm, F, b⟩ := c.ex
  exact pe_meth0 (pl := pl) he hc hm F (hr.mono hk) b .nil pass0 ht
theorem pe_mkr0 (c : Mkr X.prog X.w X.K X.mg X.base k x C sp) (hr : Room j X.A) (hk : k + 1 ≤ j) (hg : Gl X x) (hdb : (x == ("__debug__" : Str)) = false := by decide) :
    PE X (.Call (.Name x p) [] [] pos) (tMake C sp [] E0 tNil) := by
  obtain ⟨f, fd, ps, M, F, hm, b⟩ := c.ex
  exact pe_make0 M F (hr.mono hk) hg hm b .nil pass0 hdb
def rStrInt : List V → Hp → VK → Prop := fun xs H Q => ∃ i, xs = [.int i] ∧ i.natAbs.log2 < 1920 ∧ Q (.str (toString i)) H
theorem cr_strInt : CallR X (.type "str") rStrInt := call_str_int
def rSortD (K : PySem.W.Frag) : List V → Hp → VK → Prop := fun xs H Q => ∃ (a : Addr) (kvs : List (Key × V)) (ks : List Str), xs = [.ref a] ∧ Rd H a (.dK kvs) ∧ kvs.map (·.1) = ks.map Sum.inr ∧ ks.length < 64 ∧ ∀ ys p, ys.Perm ks → sortedS ys = true → H p = none → Q (.ref p) (upd H p (.lst (ys.map V.str)))
theorem cr_sortD (h : X.calm = true) : CallR X (.builtin "sorted") (rSortD X.K) := call_sortedD h
def rDictP (K : PySem.W.Frag) : List V → Hp → VK → Prop := fun xs H Q => ∃ (a : Addr) (ps : List Addr) (kvs : List (Key × V)), xs = [.ref a] ∧ SqL K H a (ps.map V.ref) ∧ Paired (fun p kv => SqT K H p [kV kv.1, kv.2]) ps kvs ∧ ∀ p, H p = none → Q (.ref p) (upd H p (.dK (mergeK [] kvs)))
theorem cr_dictP (h : X.calm = true) : CallR X (.type "dict") (rDictP X.K) := call_dictP h
end
section
variable {K : PySem.W.Frag} {σ : L2.St} {H H' : Hp} {ta tb td ty te tc tv : TE} {t u : TT} {x y z v : V} {D : Ends} {tu tw tz : TS} {C p d dx : Addr} {fs : List (Str × V)} {kvs : List (Key × V)} {k : List Nat}
theorem ev_fld {f : Str} (ha : Ev ta σ H (.ref p)) (ho : H p = some (.ins C dx fs)) (hc : Cls K C) (hn : NoAttr K C f) (hl : fs.lookup f = some v) : Ev (tFld K ta f) σ H v := fun H1 e Q q =>
  ha H1 e _ fun H2 e2 => ⟨p, C, dx, fs, v, rfl, (e.trans e2) _ _ ho, hc, hn, hl, q H2 e2⟩
theorem ev_meth {m : Str} {sp : Sp} {E : XK} {t : TA} {vs : List V} (ha : Ev ta σ H (.ref p)) (ho : H p = some (.ins C dx fs)) (hm : fs.lookup m = none) (h : EvA t σ H vs) (hs : SpV sp (.ref p :: vs) H z) : Ev (tMeth C m sp [] E ta t) σ H z := fun H1 e Q q =>
  ha H1 e _ fun H2 e2 => ⟨p, dx, fs, rfl, (e.trans e2) _ _ ho, hm, h H2 (e.trans e2) _ fun H3 e3 => by
    rw [List.append_nil]
    exact hs H3 ((e.trans e2).trans e3) Q (fun H4 e4 => q H4 ((e2.trans e3).trans e4)) E⟩
theorem ev_dget (h1 : Ev td σ H (.ref d)) (h2 : Ev ty σ H (.str (S k))) (hd : H d = some (.dK kvs)) (hv : valV kvs (Sum.inr (S k)) = some v) : Ev (tDGet td ty) σ H v := fun H1 e Q q =>
  h1 H1 e _ fun H2 e2 => h2 H2 (e.trans e2) _ fun H3 e3 => ⟨d, v, rfl, by
    have g := DGet.k (k := (Sum.inr (S k) : Key)) (((e.trans e2).trans e3) _ _ hd)
    rw [hv] at g
    exact g, q H3 (e2.trans e3)⟩
theorem ev_dget1 (h1 : Ev td σ H (.ref d)) (h2 : Ev ty σ H (.str (S k))) (hd : H d = some (.dK kvs)) : Ev (tDGet1 td ty) σ H ((valV kvs (Sum.inr (S k))).getD .non) := fun H1 e Q q =>
  h1 H1 e _ fun H2 e2 => ⟨d, rfl, .inl ⟨kvs, .inl ((e.trans e2) _ _ hd)⟩, h2 H2 (e.trans e2) _ fun H3 e3 => ⟨_, DGet.k (k := (Sum.inr (S k) : Key)) (((e.trans e2).trans e3) _ _ hd), q H3 (e2.trans e3)⟩⟩
theorem et_din (h2 : Ev ty σ H (.str (S k))) (h1 : Ev td σ H (.ref d)) (hd : H d = some (.dK kvs)) : EvT (tB (tDIn ty td)) σ H (valV kvs (Sum.inr (S k))).isSome := fun H1 e Q q =>
  h2 H1 e _ fun H2 e2 => h1 H2 (e.trans e2) _ fun H3 e3 => ⟨d, _, rfl, DGet.k (k := (Sum.inr (S k) : Key)) (((e.trans e2).trans e3) _ _ hd), _, rfl, q H3 (e2.trans e3)⟩
/-- d[k] = v -/
theorem s_dput (hv : Ev tv σ H v) (h1 : ∀ H1, Ex H H1 → Ev td σ H1 (.ref d)) (h2 : ∀ H1, Ex H H1 → Ev ty σ H1 (.str (S k))) (hd : H d = some (.dK kvs)) (hl : kvs.length < 100000) (q : ∀ H1, Ex H H1 → D.nx σ (upd H1 d (.dK (putK kvs (Sum.inr (S k)) v)))) : sDPut td ty tv D σ H :=
  hv H (Ex.refl H) _ fun H1 e1 => h1 H1 e1 H1 (Ex.refl H1) _ fun H2 e2 => h2 H2 (e1.trans e2) H2 (Ex.refl H2) _ fun H3 e3 => ⟨d, _, rfl, DPut.k (k := (Sum.inr (S k) : Key)) (((e1.trans e2).trans e3) _ _ hd) (sz_lt hl), q H3 ((e1.trans e2).trans e3)⟩
/-- d[k] = (a, ..), a new tuple -/
theorem s_dputU {xs : List V} (hv : EvU tv σ H xs) (h1 : ∀ H1, Ex H H1 → Ev td σ H1 (.ref d)) (h2 : ∀ H1, Ex H H1 → Ev ty σ H1 (.str (S k))) (hd : H d = some (.dK kvs)) (hl : kvs.length < 100000) (q : ∀ r H1, H r = none → Ex H H1 → H1 r = some (.tup xs) → D.nx σ (upd H1 d (.dK (putK kvs (Sum.inr (S k)) (.ref r))))) : sDPut td ty tv D σ H :=
  hv H (Ex.refl H) _ fun r H1 nr e1 hr => h1 H1 e1 H1 (Ex.refl H1) _ fun H2 e2 => h2 H2 (e1.trans e2) H2 (Ex.refl H2) _ fun H3 e3 => ⟨d, _, rfl, DPut.k (k := (Sum.inr (S k) : Key)) (((e1.trans e2).trans e3) _ _ hd) (sz_lt hl), q r H3 nr ((e1.trans e2).trans e3) (e3 _ _ (e2 _ _ hr))⟩
theorem et_isN (ha : Ev ta σ H x) : EvT (tTest (tOp rIsN ta (tC .non))) σ H (decide (x = .non)) := et_test (ev_op ha ev_c fun H1 _ Q q => ⟨rfl, q H1 (Ex.refl H1)⟩)
theorem et_notN (ha : Ev ta σ H x) : EvT (tTest (tOp rNotN ta (tC .non))) σ H (!decide (x = .non)) := et_test (ev_op ha ev_c fun H1 _ Q q => ⟨rfl, q H1 (Ex.refl H1)⟩)
theorem rv_ix0 {q : Addr} {xs : List V} {i : Nat} (h : SqT K H q xs) (hi : xs[i]? = some v) : RV (rIxT K) (.ref q) (.int (i : Int)) H v := rv_ixT h (atI_nat hi)
theorem ev_strInt {n : Nat} (ha : Ev ta σ H (.int (n : Int))) (hn : n < 1000) : Ev (tCB rStrInt (tCons ta tNil)) σ H (.str (S (TL.numL n))) := fun H1 e Q q =>
  ha H1 e _ fun H2 e2 => ⟨(n : Int), rfl, by
    rw [Int.natAbs_natCast]
    have : n.log2 < 10 := by
      by_cases h0 : n = 0
      · subst h0
        decide
      · exact (Nat.log2_lt h0).mpr (by omega)
    omega, by
    have z := num_S n
    rw [← z] at q
    exact q H2 e2⟩
end
end Kn
/-! ### lists of pairs with text keys: what a dict holds -/
namespace Kn
open PySem PySem.Spec PyProof.Rows L2 Evl SX
section
variable {α : Type}
def look (es : List (List Nat × α)) (k : List Nat) : Option α := (es.find? fun x => decide (x.1 = k)).map (·.2)
def put (es : List (List Nat × α)) (k : List Nat) (e : α) : List (List Nat × α) := if (es.any fun x => decide (x.1 = k)) = true then es.map (fun x => if x.1 = k then (x.1, e) else x) else es ++ [(k, e)]
theorem look_cons (x : List Nat × α) (r : List (List Nat × α)) (k : List Nat) : look (x :: r) k = if x.1 = k then some x.2 else look r k := by
  unfold look
  rw [List.find?_cons]
  by_cases h : x.1 = k
  · rw [decide_eq_true h, if_pos h]
    rfl
  · rw [decide_eq_false h, if_neg h]
theorem look_any (k : List Nat) : ∀ es : List (List Nat × α), (es.any fun x => decide (x.1 = k)) = (look es k).isSome
  | [] => rfl
  | x :: r => by
    rw [List.any_cons, look_cons, look_any k r]
    by_cases h : x.1 = k
    · rw [decide_eq_true h, if_pos h]
      rfl
    · rw [decide_eq_false h, if_neg h]
      rfl
theorem look_map (k j : List Nat) (e : α) : ∀ es : List (List Nat × α), look (es.map fun x => if x.1 = k then (x.1, e) else x) j = (look es j).map fun y => if j = k then e else y
  | [] => rfl
  | x :: r => by
    rw [List.map_cons, look_cons, look_cons, look_map k j e r]
    by_cases h : x.1 = k
    · rw [if_pos h]
      by_cases h2 : x.1 = j
      · rw [if_pos h2, if_pos h2, Option.map_some, if_pos (h2.symm.trans h)]
      · rw [if_neg h2, if_neg h2]
    · rw [if_neg h]
      by_cases h2 : x.1 = j
      · rw [if_pos h2, if_pos h2, Option.map_some, if_neg (fun z => h (h2.trans z))]
      · rw [if_neg h2, if_neg h2]
theorem look_snoc (k j : List Nat) (e : α) : ∀ es : List (List Nat × α), look es k = none → look (es ++ [(k, e)]) j = if j = k then some e else look es j
  | [], _ => by
    show look [(k, e)] j = _
    rw [look_cons]
    by_cases h : k = j
    · rw [if_pos h, if_pos h.symm]
    · rw [if_neg h, if_neg (fun z => h z.symm)]
  | x :: r, hn => by
    rw [look_cons] at hn
    by_cases h : x.1 = k
    · rw [if_pos h] at hn
      cases hn
    · rw [if_neg h] at hn
      rw [List.cons_append, look_cons, look_cons, look_snoc k j e r hn]
      by_cases h2 : x.1 = j
      · rw [if_pos h2, if_pos h2, if_neg (fun z => h (h2.trans z))]
      · rw [if_neg h2, if_neg h2]
theorem look_put (es : List (List Nat × α)) (k j : List Nat) (e : α) : look (put es k e) j = if j = k then some e else look es j := by
  unfold put
  rw [look_any]
  cases h : look es k with
  | none => exact look_snoc k j e es h
  | some y =>
    show look (es.map _) j = _
    rw [look_map]
    by_cases hj : j = k
    · subst hj
      rw [h, if_pos rfl, Option.map_some, if_pos rfl]
    · rw [if_neg hj]
      cases look es j with
      | none => rfl
      | some z => rw [Option.map_some, if_neg hj]
theorem put_len (es : List (List Nat × α)) (k : List Nat) (e : α) : (put es k e).length ≤ es.length + 1 := by
  unfold put
  split
  · rw [List.length_map]
    omega
  · rw [List.length_append]
    exact Nat.le_refl _
theorem look_mem {es : List (List Nat × α)} {k : List Nat} {e : α} (h : look es k = some e) : (k, e) ∈ es := by
  unfold look at h
  cases hf : es.find? fun x => decide (x.1 = k) with
  | none => rw [hf] at h; cases h
  | some x =>
    rw [hf] at h
    have h1 : x.1 = k := of_decide_eq_true (List.find?_some (p := fun x : List Nat × α => decide (x.1 = k)) hf)
    have h2 : x.2 = e := Option.some.inj h
    rw [← h1, ← h2]
    exact List.mem_of_find?_eq_some hf
theorem mem_look {es : List (List Nat × α)} {x : List Nat × α} (h : x ∈ es) : (look es x.1).isSome = true := by
  rw [← look_any, List.any_eq_true]
  exact ⟨x, h, decide_eq_true rfl⟩
theorem look_put_mem {es : List (List Nat × α)} {k : List Nat} {e : α} {x : List Nat × α} (h : x ∈ put es k e) : x ∈ es ∨ x.2 = e := by
  unfold put at h
  split at h
  · obtain ⟨y, hy, e2⟩ := List.mem_map.mp h
    by_cases h3 : y.1 = k
    · rw [if_pos h3] at e2
      exact .inr (by rw [← e2])
    · rw [if_neg h3] at e2
      exact .inl (by rw [← e2]; exact hy)
  · rcases List.mem_append.mp h with z | z
    · exact .inl z
    · exact .inr (by rw [List.mem_singleton.mp z])
end
/-- how pairs lie as a dict's: R tells which value stands for which thing -/
def Lies {α : Type} (R : α → V → Prop) (es : List (List Nat × α)) (kvs : List (Key × V)) : Prop := Paired (fun x (kv : Key × V) => kv.1 = Sum.inr (S x.1) ∧ R x.2 kv.2) es kvs
section
variable {α : Type} {R R' : α → V → Prop}
theorem key_eq {a b : List Nat} : ((Sum.inr (S a) : Key) = Sum.inr (S b)) ↔ a = b := ⟨fun h => S_inj (Sum.inr.inj h), fun h => by rw [h]⟩
theorem Lies.len {es : List (List Nat × α)} {kvs : List (Key × V)} (h : Lies R es kvs) : es.length = kvs.length := Paired.length h
theorem Lies.mono {es : List (List Nat × α)} {kvs : List (Key × V)} (h : Lies R es kvs) (f : ∀ a v, R a v → R' a v) : Lies R' es kvs := Paired.mapP h fun _ _ z => ⟨z.1, f _ _ z.2⟩
theorem Lies.look : ∀ {es : List (List Nat × α)} {kvs : List (Key × V)}, Lies R es kvs → ∀ k, (Kn.look es k = none ∧ valV kvs (Sum.inr (S k)) = none) ∨ ∃ e v, Kn.look es k = some e ∧ valV kvs (Sum.inr (S k)) = some v ∧ R e v
  | [], _, .nil, _ => .inl ⟨rfl, rfl⟩
  | x :: r, kv :: kvs, .cons h t, k => by
    rw [look_cons]
    by_cases hk : x.1 = k
    · rw [if_pos hk]
      refine .inr ⟨x.2, kv.2, rfl, valV_pos (h.1.trans (key_eq.mpr hk)), h.2⟩
    · rw [if_neg hk, valV_neg (fun z => hk (key_eq.mp (h.1.symm.trans z)))]
      exact Lies.look t k
theorem Lies.any {es : List (List Nat × α)} {kvs : List (Key × V)} (h : Lies R es kvs) (k : List Nat) : (kvs.any fun kv => decide (kv.1 = Sum.inr (S k))) = es.any fun x => decide (x.1 = k) := by
  rw [valV_any, look_any]
  rcases h.look k with ⟨a, b⟩ | ⟨e, v, a, b, _⟩
  · rw [a, b]
    rfl
  · rw [a, b]
    rfl
theorem Lies.mapped {k : List Nat} {e : α} {v : V} (hv : R e v) : ∀ {es : List (List Nat × α)} {kvs : List (Key × V)}, Lies R es kvs → Lies R (es.map fun x => if x.1 = k then (x.1, e) else x) (kvs.map fun kv => if kv.1 = (Sum.inr (S k) : Key) then (kv.1, v) else kv)
  | [], _, .nil => .nil
  | x :: r, kv :: kvs, .cons h t => by
    refine .cons ?_ (Lies.mapped hv t)
    by_cases hk : x.1 = k
    · dsimp only
      rw [if_pos hk, if_pos (h.1.trans (key_eq.mpr hk))]
      exact ⟨h.1, hv⟩
    · dsimp only
      rw [if_neg hk, if_neg (fun z => hk (key_eq.mp (h.1.symm.trans z)))]
      exact h
theorem Lies.snoc {k : List Nat} {e : α} {v : V} (hv : R e v) : ∀ {es : List (List Nat × α)} {kvs : List (Key × V)}, Lies R es kvs → Lies R (es ++ [(k, e)]) (kvs ++ [(Sum.inr (S k), v)])
  | [], _, .nil => .cons ⟨rfl, hv⟩ .nil
  | _ :: _, _ :: _, .cons h t => .cons h (Lies.snoc hv t)
theorem Lies.put {es : List (List Nat × α)} {kvs : List (Key × V)} {k : List Nat} {e : α} {v : V} (h : Lies R es kvs) (hv : R e v) : Lies R (Kn.put es k e) (putK kvs (Sum.inr (S k)) v) := by
  unfold Kn.put putK
  rw [h.any k]
  split
  · exact h.mapped hv
  · exact h.snoc hv
theorem Lies.keys : ∀ {es : List (List Nat × α)} {kvs : List (Key × V)}, Lies R es kvs → kvs.map (·.1) = (es.map fun x => S x.1).map Sum.inr
  | [], _, .nil => rfl
  | _ :: _, _ :: _, .cons h t => by
    rw [List.map_cons, List.map_cons, List.map_cons, h.1, Lies.keys t]
theorem Lies.get : ∀ {es : List (List Nat × α)} {kvs : List (Key × V)}, Lies R es kvs → ∀ (i : Nat) kv, kvs[i]? = some kv → ∃ x, es[i]? = some x ∧ kv.1 = Sum.inr (S x.1) ∧ R x.2 kv.2
  | [], _, .nil, _, _, h => by simp at h
  | x :: _, kv :: _, .cons h t, 0, kv', e => by
    cases Option.some.inj e
    exact ⟨x, rfl, h.1, h.2⟩
  | _ :: _, _ :: _, .cons h t, i + 1, kv', e => by
    obtain ⟨y, h1, h2⟩ := Lies.get t i kv' (by simpa using e)
    exact ⟨y, by simpa using h1, h2⟩
end
section
variable {K : PySem.W.Frag} {σ : L2.St} {H H' : Hp} {ta tb td ty te tc tv : TE} {t u : TT} {x y z v : V} {D : Ends} {tu tw tz : TS} {C p d dx : Addr} {fs : List (Str × V)} {kvs : List (Key × V)} {k : List Nat}
/-- y = [x for x in d.values() if t] -/
theorem s_lcVals {i j : Nat} {vs : List Nat} (f : Nat → Bool) (h1 : ∀ H1 : Hp, (∀ a o, a ≠ d → H a = some o → H1 a = some o) → Ev td σ H1 (.ref d)) (hd : H d = some (.dK kvs)) (hz : kvs.length ≤ 40000) (hw : ∀ x, wipe ((wipe σ vs).set j (some x)) vs = wipe σ vs)
    (ht : ∀ (i : Nat) (kv : Key × V) (H1 : Hp), (∀ a o, a ≠ d → H a = some o → H1 a = some o) → kvs[i]? = some kv → EvT t ((wipe σ vs).set j (some kv.2)) H1 (f i)) (he : ∀ (x : V) H1, Ev te ((wipe σ vs).set j (some x)) H1 x)
    (k : ∀ p H1, H p = none → Ex H H1 → H1 p = some (.lst (given kvs.length f fun i => (kvs[i]?.map (·.2)).getD .non)) → D.nx (σ.set i (some (.ref p))) H1) : tLock (tAsg (tLc (iVals td) (gName j) t te vs) (gName i)) D σ H := by
  refine ⟨d, .dK kvs, hd, trivial, fun od => ?_⟩
  have base : ∀ H1, Ex (upd H d (.frz od (.dK kvs))) H1 → ∀ a o, a ≠ d → H a = some o → H1 a = some o := fun H1 e a o ha h => e a o (by rw [upd_ne ha]; exact h)
  refine h1 _ (base _ (Ex.refl _)) _ (Ex.refl _) _ fun H1 e1 => ⟨d, od, kvs, rfl, e1 _ _ upd_same, fun Dl hD => ?_⟩
  refine lc_it walk_values (Cw H1 f (fun i => (kvs[i]?.map (·.2)).getD .non) Dl) ⟨hD, Ex.new hD, upd_same⟩ (fun i H2 _ q => q.2.1 _ _ (e1 _ _ upd_same)) (fun i x H2 H3 hi q y => ?_) (fun H2 q => ?_)
  · obtain ⟨rfl, ky, hy⟩ := y
    refine ⟨hw x, cw_turn q (by omega) (ht i (ky, x) H1 (base H1 e1) hy) (fun _ => ?_)⟩
    rw [hy]
    exact he x H1
  · have dn : H1 d = some (.frz od (.dK kvs)) := e1 _ _ upd_same
    have hd2 : H2 d = some (.frz od (.dK kvs)) := q.2.1 _ _ dn
    refine ⟨hd2, k Dl _ ?_ (fun a o h => ?_) ?_⟩
    · cases h : H Dl with
      | none => rfl
      | some o =>
        have ne : Dl ≠ d := fun z => by rw [z] at hD; rw [hD] at dn; cases dn
        have := e1 _ _ (by rw [upd_ne ne]; exact h)
        rw [hD] at this
        cases this
    · by_cases ha : a = d
      · rw [ha] at h ⊢
        rw [upd_same, ← hd, h]
      · rw [upd_ne ha]
        exact q.2.1 _ _ (base H1 e1 a o ha h)
    · have ne : Dl ≠ d := fun z => by rw [z] at hD; rw [hD] at dn; cases dn
      rw [upd_ne ne]
      exact q.2.2
/-- [(a, ..) for x in d if t]: new tuples -/
theorem ev_lcKeysT {j : Nat} {vs : List Nat} (f : Nat → Bool) (xs : Nat → List V) (h1 : ∀ H1, Ev td σ H1 (.ref d)) (hd : H d = some (.dK kvs)) (hz : kvs.length ≤ 40000) (hw : ∀ x, wipe ((wipe σ vs).set j (some x)) vs = wipe σ vs)
    (ht : ∀ (i : Nat) (kv : Key × V) (H1 : Hp) , kvs[i]? = some kv → EvT t ((wipe σ vs).set j (some (kV kv.1))) H1 (f i))
    (he : ∀ (i : Nat) (kv : Key × V) (H1 : Hp) (od : Obj), H1 d = some (.frz od (.dK kvs)) → kvs[i]? = some kv → f i = true → EvU te ((wipe σ vs).set j (some (kV kv.1))) H1 (xs i)) :
    ∀ H0, Ex H H0 → ∀ Q : VK, (∀ p H2 (ps : List Addr), H0 p = none → Ex H0 H2 → H2 p = some (.lst (ps.map V.ref)) → Paired (fun q v => H2 q = some (.tup v)) ps (((List.range kvs.length).filter f).map xs) → Q (.ref p) H2) → tLockE (tLc (iKeys td) (gName j) t te vs) σ H0 Q := by
  intro H0 e0 Q k
  have hd0 := e0 _ _ hd
  refine ⟨d, .dK kvs, hd0, trivial, fun od => ?_⟩
  refine h1 _ _ (Ex.refl _) _ fun H1 e1 => ⟨d, od, rfl, .inl ⟨kvs, e1 _ _ upd_same, fun Dl hD => ?_⟩⟩
  have dn : H1 d = some (.frz od (.dK kvs)) := e1 _ _ upd_same
  have ne : Dl ≠ d := fun z => by rw [z] at hD; rw [hD] at dn; cases dn
  refine lc_it walk_keys (fun i H' => Ex H1 H' ∧ ∃ ps : List Addr, H' Dl = some (.lst (ps.map V.ref)) ∧ ps.length ≤ i ∧ Paired (fun q v => H' q = some (.tup v)) ps (((List.range i).filter f).map xs)) ⟨Ex.new hD, [], upd_same, Nat.le_refl _, .nil⟩ (fun i H2 _ q => q.1 _ _ dn) (fun i x H2 H3 hi q y => ?_) (fun H2 q => ?_)
  · obtain ⟨rfl, ky, vv, hy, rfl⟩ := y
    obtain ⟨e2, ps, hl, hlen, hp⟩ := q
    refine ⟨hw _, ht i (ky, vv) _ hy _ (Ex.refl _) _ fun H3 e3 => ?_⟩
    cases hf : f i with
    | false =>
      show Ex H1 H3 ∧ _
      refine ⟨e2.trans e3, ps, e3 _ _ hl, by omega, ?_⟩
      rw [List.range_succ, List.filter_append, List.filter_cons, hf]
      show Paired _ ps (List.map xs (_ ++ []))
      rw [List.append_nil]
      exact Paired.mapP hp fun _ _ z => e3 _ _ z
    | true =>
      show te _ H3 fun y H4 => ∃ acc, _
      refine he i (ky, vv) H3 od (e3 _ _ (e2 _ _ dn)) hy hf H3 (Ex.refl _) _ fun r H4 nr e4 hr => ?_
      have hl4 : H4 Dl = some (.lst (ps.map V.ref)) := e4 _ _ (e3 _ _ hl)
      refine ⟨ps.map V.ref, hl4, sz_lt (by rw [List.length_map]; omega), Ex.mut ((e2.trans e3).trans e4) hD, ps ++ [r], ?_, ?_, ?_⟩
      · rw [List.map_append]
        exact upd_same
      · rw [List.length_append]
        show ps.length + 1 ≤ i + 1
        omega
      · have up : ∀ q w, H4 q = some (.tup w) → (upd H4 Dl (.lst (ps.map V.ref ++ [.ref r]))) q = some (.tup w) := fun q w hq => by
          rw [upd_ne (ne_of hq hl4 (by intro z; cases z))]
          exact hq
        rw [List.range_succ, List.filter_append, List.filter_cons, hf, List.map_append]
        have app : ∀ {F : Addr → List V → Prop} {as : List Addr} {bs : List (List V)} {a : Addr} {b : List V}, Paired F as bs → F a b → Paired F (as ++ [a]) (bs ++ [b]) := by
          intro F as bs a b hh hab
          induction hh with
          | nil => exact .cons hab .nil
          | cons h1 _ ih => exact .cons h1 ih
        exact app (Paired.mapP hp fun _ _ z => up _ _ (e4 _ _ (e3 _ _ z))) (up _ _ hr)
  · obtain ⟨e2, ps, hl, _, hp⟩ := q
    refine ⟨e2 _ _ dn, k Dl _ ps ?_ (fun a o h => ?_) ?_ (Paired.mapP hp fun q w z => ?_)⟩
    · cases h : H0 Dl with
      | none => rfl
      | some o =>
        have := e1 _ _ (by rw [upd_ne ne]; exact h)
        rw [hD] at this
        cases this
    · by_cases ha : a = d
      · rw [ha] at h ⊢
        rw [upd_same, ← hd0, h]
      · rw [upd_ne ha]
        exact e2 _ _ (e1 _ _ (by rw [upd_ne ha]; exact h))
    · rw [upd_ne ne]
      exact hl
    · have hdz : H2 d = some (.frz od (.dK kvs)) := e2 _ _ dn
      rw [upd_ne (ne_of z hdz (by intro w; cases w))]
      exact z
end
end Kn
namespace Kn
open PySem PySem.Spec PyProof.Rows L2 Evl SX
section
variable {K : PySem.W.Frag} {σ : L2.St} {H H' : Hp} {ta tb td ty te tc tv : TE} {t u : TT} {x y z v : V} {D : Ends} {tu tw tz : TS} {C p d dx : Addr} {fs : List (Str × V)} {kvs : List (Key × V)} {k : List Nat}
theorem q_dnew {i : Nat} (k : ∀ p, H p = none → tz D (σ.set i (some (.ref p))) (upd H p (.dK []))) : tSeq (tAsg tDNewK (gName i)) tz D σ H := k
theorem s_meth {m : Str} {sp : Sp} {E : XK} {tA : TA} {vs : List V} (ha : Ev ta σ H (.ref p)) (ho : H p = some (.ins C dx fs)) (hm : fs.lookup m = none) (h : EvA tA σ H vs) (k : ∀ H1, Ex H H1 → sp (.ref p :: vs) H1 (fun _ H2 => D.nx σ H2) E) : tDrop (tMeth C m sp [] E ta tA) D σ H :=
  ha H (Ex.refl H) _ fun H1 e1 => ⟨p, dx, fs, rfl, e1 _ _ ho, hm, h H1 e1 _ fun H2 e2 => by
    rw [List.append_nil]
    exact k H2 (e1.trans e2)⟩
theorem q_meth {m : Str} {sp : Sp} {E : XK} {tA : TA} {vs : List V} (ha : Ev ta σ H (.ref p)) (ho : H p = some (.ins C dx fs)) (hm : fs.lookup m = none) (h : EvA tA σ H vs) (k : ∀ H1, Ex H H1 → sp (.ref p :: vs) H1 (fun _ H2 => tz D σ H2) E) : tSeq (tDrop (tMeth C m sp [] E ta tA)) tz D σ H :=
  s_meth (D := { D with nx := tz D }) ha ho hm h k
/-- for k in sorted(d) -/
theorem q_forSD {ks : List (List Nat)} {j : Nat} (hv : Ev td σ H (.ref d)) (hd : H d = some (.dK kvs)) (hk : kvs.map (·.1) = (ks.map S).map Sum.inr) (hn : ks.length < 64) (Pv : List (List Nat) → Addr → Nat → L2.St → Hp → Prop)
    (h0 : ∀ ys p H1, ys.Perm ks → H p = none → Ex H H1 → H1 p = some (.lst (ys.map fun l => V.str (S l))) → Pv ys p 0 σ H1)
    (hl : ∀ ys p i σ' H', Pv ys p i σ' H' → SqL K H' p (ys.map fun l => V.str (S l)))
    (hs : ∀ ys p i l σ' H', ys.Perm ks → ys[i]? = some l → Pv ys p i σ' H' → tu { D with nx := Pv ys p (i + 1), ct := Pv ys p (i + 1), bk := tz D } (σ'.set j (some (.str (S l)))) H')
    (hend : ∀ ys p σ' H', ys.Perm ks → Pv ys p ys.length σ' H' → tz D σ' H') : tSeq (tFor (iList K (tCB (rSortD K) (tCons td tNil))) (gName j) tu) tz D σ H := by
  refine hv H (Ex.refl H) _ fun H1 e1 => ⟨d, kvs, ks.map S, rfl, .inl (e1 _ _ hd), hk, by rw [List.length_map]; exact hn, fun ys p hp _ hnew => ?_⟩
  have e : ys = (ys.map TL.tl).map S := by
    rw [List.map_map]
    exact (List.map_id' ys).symm.trans (List.map_congr_left fun x _ => (S_tl x).symm)
  have hperm : (ys.map TL.tl).Perm ks := by
    have h := hp.map TL.tl
    rw [map_S_tl] at h
    exact h
  have e2 : ys.map V.str = (ys.map TL.tl).map fun l => V.str (S l) := by
    rw [List.map_map]
    exact List.map_congr_left fun x _ => congrArg V.str (S_tl x).symm
  refine ⟨p, rfl, ⟨_, sq_of upd_same⟩, ?_⟩
  rw [e2]
  refine for_list (xs := (ys.map TL.tl).map fun l => V.str (S l)) (Pv (ys.map TL.tl) p) (h0 _ p _ hperm (fresh_back e1 hnew) (e1.trans (Ex.new hnew)) upd_same) (fun i σ' H' _ q => hl _ p i σ' H' q) (fun i x σ' H' hx q => ?_) (fun σ' H' q => ?_)
  · rw [List.getElem?_map] at hx
    cases h : (ys.map TL.tl)[i]? with
    | none => rw [h] at hx; cases hx
    | some l =>
      rw [h] at hx
      cases Option.some.inj hx
      exact hs _ p i l σ' H' hperm h q
  · rw [List.length_map] at q
    exact hend _ p σ' H' hperm q
end
/-! ### a dict made of pairs -/
def puts {α : Type} (acc L : List (List Nat × α)) : List (List Nat × α) := L.foldl (fun a x => put a x.1 x.2) acc
theorem look_puts {α : Type} {g : List Nat → Option α} : ∀ (L acc : List (List Nat × α)), (∀ x ∈ L, g x.1 = some x.2) → ∀ k, look (puts acc L) k = if k ∈ L.map (·.1) then g k else look acc k
  | [], acc, _, k => (if_neg (by simp)).symm
  | x :: r, acc, h, k => by
    show look (puts (put acc x.1 x.2) r) k = _
    rw [look_puts r _ (fun y hy => h y (List.mem_cons_of_mem _ hy)) k, look_put]
    by_cases h1 : k ∈ r.map (·.1)
    · rw [if_pos h1, if_pos (by rw [List.map_cons]; exact List.mem_cons_of_mem _ h1)]
    · rw [if_neg h1]
      by_cases h2 : k = x.1
      · rw [if_pos h2, if_pos (by rw [List.map_cons, h2]; exact List.mem_cons_self), h2, h x List.mem_cons_self]
      · rw [if_neg h2, if_neg (by rw [List.map_cons, List.mem_cons]; exact fun z => z.elim h2 h1)]
theorem puts_len {α : Type} : ∀ (L acc : List (List Nat × α)), (puts acc L).length ≤ acc.length + L.length
  | [], acc => Nat.le_refl _
  | x :: r, acc => by
    have h1 := puts_len r (put acc x.1 x.2)
    have h2 := put_len acc x.1 x.2
    show (puts (put acc x.1 x.2) r).length ≤ _
    rw [List.length_cons]
    omega
theorem Lies.puts {α : Type} {R : α → V → Prop} : ∀ {L : List (List Nat × α)} {kvs : List (Key × V)} {acc : List (List Nat × α)} {akvs : List (Key × V)}, Lies R L kvs → Lies R acc akvs → Lies R (Kn.puts acc L) (mergeK akvs kvs)
  | [], _, _, _, .nil, h => h
  | x :: r, kv :: kvs, acc, akvs, .cons h t, ha => by
    have h2 := ha.put (k := x.1) h.2
    rw [← h.1] at h2
    show Lies R (Kn.puts (Kn.put acc x.1 x.2) r) (mergeK (putK akvs kv.1 kv.2) kvs)
    exact Lies.puts (L := r) (kvs := kvs) t h2
theorem put_mem {α : Type} {es : List (List Nat × α)} {k : List Nat} {e : α} {x : List Nat × α} (h : x ∈ put es k e) : x ∈ es ∨ x = (k, e) := by
  unfold put at h
  split at h
  · obtain ⟨y, hy, e2⟩ := List.mem_map.mp h
    by_cases h3 : y.1 = k
    · rw [if_pos h3] at e2
      exact .inr (by rw [← e2, h3])
    · rw [if_neg h3] at e2
      exact .inl (by rw [← e2]; exact hy)
  · rcases List.mem_append.mp h with z | z
    · exact .inl z
    · exact .inr (List.mem_singleton.mp z)
theorem upd_none {H : Hp} {a b : Addr} {o : HO} (h : upd H a o b = none) : H b = none := by
  by_cases e : b = a
  · subst e
    rw [upd_same] at h
    cases h
  · rw [upd_ne e] at h
    exact h
theorem Paired.maps {α β γ : Type} {F : α → β → Prop} {f : γ → α} {g : γ → β} : ∀ (L : List γ), (∀ i ∈ L, F (f i) (g i)) → Paired F (L.map f) (L.map g)
  | [], _ => .nil
  | x :: r, h => .cons (h x List.mem_cons_self) (Paired.maps r fun i hi => h i (List.mem_cons_of_mem _ hi))
theorem ev_dgetF {σ : L2.St} {H : Hp} {td ty : TE} {d : Addr} {k : List Nat} {kvs : List (Key × V)} {v : V} {od : Obj} (h1 : Ev td σ H (.ref d)) (h2 : Ev ty σ H (.str (S k))) (hd : H d = some (.frz od (.dK kvs))) (hv : valV kvs (Sum.inr (S k)) = some v) : Ev (tDGet td ty) σ H v := fun H1 e Q q =>
  h1 H1 e _ fun H2 e2 => h2 H2 (e.trans e2) _ fun H3 e3 => ⟨d, v, rfl, .inl ⟨kvs, Sum.inr (S k), .inr ⟨od, ((e.trans e2).trans e3) _ _ hd⟩, rfl, hv.symm⟩, q H3 (e2.trans e3)⟩
end Kn

/-! ### own exceptions over an own base -/
namespace Kn
open PySem PySem.Spec PyProof.Rows L2 Evl SX
/-- what the base's __init__ asks of the own base class at B -/
structure BaseC (K : PySem.W.Frag) (B : Addr) : Prop where
  sp : PySem.W.specialIn K (.ref B) "__getattribute__" = some (some (.builtin "type.__getattribute__"))
  rd : PySem.W.readsIn K B (.type "type") = true
  fi : PySem.W.findCls K (.ref B) (.type "type") "__init__" = some (.val (.builtin "ValueError.__init__"))
theorem pe_beinit {X : Cx} {b : Str} {B : Addr} {e : Expr} {es : List Expr} {ta : TA} {p1 p2 pos : Pos} {pl : Sem Bool} (T : BaseC X.K B) (hg : Gl X b) (hm : X.mg b = some (.ref B)) (ha : PA X (e :: es) ta)
    (hdb : (b == ("__debug__" : Str)) = false := by decide)
    (hc : eval (.Call (.Attribute (.Name b p1) "__init__" p2) (e :: es) [] pos) X.env = (do
      let ov ← eval (.Name b p1) X.env
      standAt p2.atName
      let (f, first) ← holding [ov] (getMethod ov "__init__" pl)
      callWith pos f first (backTo pos (starEach (e :: es) X.env)) (backToKw pos (keywordEach [] X.env))) := by rfl)
    (he : starEach (e :: es) X.env = (false, eval e X.env) :: starEach es X.env := by rfl) (hpl : (backTo pos (starEach es X.env)).any (·.1) = false := by rfl) :
    PE X (.Call (.Attribute (.Name b p1) "__init__" p2) (e :: es) [] pos) (tVeI X.K ta) := by
  refine ⟨fun pins s σ H Q I h => ?_⟩
  refine PySem.W.methodCall_KW (ld_glob I hg hm ?_ hdb) hc
  refine PySem.W.method_cls I.kIn T.sp (PySem.W.cls_value I.kIn T.rd T.fi (by decide +kernel) ?_)
  show wpAny _ _ (callWith pos (Value.builtin "ValueError.__init__") [] (backTo pos (starEach (e :: es) X.env)) []) _ _ _
  refine PyProof.Rows.callWith_method1 (thn (ha.run pos pins _ σ H _ (I.tok _) h) fun us s1 ⟨vs, H1, I1, r1, a, C, ws, ev, hl, T, ea, q⟩ => ?_) he hpl
  subst ev
  cases r1 with
  | @cons _ u0 _ ur ra rw' =>
    obtain rfl : u0 = Value.ref a := ra
    have hlen : ur.length ≤ sizeLine := by
      rw [← Paired.length rw', sizeLine_eq]
      omega
    exact oinit_ok T I1 ea hlen fun s' J => ⟨.non, H1, J, rfl, q⟩
/-- isinstance(e, c), e the exception at a that the suite holds, with a dict -/
def rIsX (K : PySem.W.Frag) (a : Addr) (cls : Value) (d : Option Addr) : List V → Hp → VK → Prop := fun xs H Q => ∃ (D dd : Addr) (fs : List (Str × V)) (c : V) (cv : Value) (b : Bool),
  cls = .ref D ∧ d = some dd ∧ ExcC K D ∧ H dd = some (.xd fs) ∧ xs = [.ref a, c] ∧ (∀ u, RelV c u → u = cv) ∧ PySem.W.kitOne K (.ref D) cv = some b ∧ Q (.bl b) H
theorem cr_isX {X : Cx} {a : Addr} {oe : Obj} {cls : Value} {d : Option Addr} {pn : List (Addr × Obj)} (hz : Zc cls d oe) (hf : ∃ vs, oe.data = .fields vs) : CallR (X.suite a ((a, oe) :: pn)) (.builtin "isinstance") (rIsX X.K a cls d) := by
  intro pins s σ H xs us Q I r h
  obtain ⟨D, dd, fs, c, cv, b, rfl, rfl, C, hd, rfl, hcv, e, q⟩ := h
  obtain ⟨u0, u1, rfl, r0, r1⟩ := vals2 r
  obtain rfl : u0 = Value.ref a := r0
  obtain rfl := hcv _ r1
  obtain ⟨hget, _⟩ := I.pin (a, oe) (List.mem_append_left _ List.mem_cons_self)
  obtain ⟨vs, hv⟩ := hf
  obtain ⟨mA, hns, _⟩ := (I.hok dd _ hd : ObjOk X.prog X.w H s.heap dd (.xd fs))
  obtain ⟨od, ho, _⟩ := lookIn_ns hns
  have J : PySem.W.InstAt s.heap a oe D (some od) := ⟨hget, hz.1, by unfold PySem.W.notCls; rw [hv] <;> rfl, by rw [hz.2]; exact ho⟩
  obtain ⟨cd, hc, _⟩ := PySem.W.any_some C.hd
  exact PySem.W.kia_one (PySem.W.kitx_exc (by rw [hc]; rfl) C.hg C.hk C.hs C.ha C.hn C.ht C.hm) I.kIn J e (fun z => nomatch z) fun tk => ⟨.bl b, H, I.kept (t' := tk) fun _ _ z => z, rfl, q⟩
end Kn
/-! ### int(t, 2) -/
namespace Kn.Bi
open PySem PySem.Spec PyProof.Rows L2 PySem.NumText PySem.Calls
def IsBin (c : Nat) : Prop := c = 48 ∨ c = 49
theorem IsBin.hex {c : Nat} (h : IsBin c) : Hx.IsHex c := .inl (by unfold IsBin at h; omega)
theorem IsBin.lt {c : Nat} (h : IsBin c) : Hx.hv c < 2 := by
  rcases h with rfl | rfl <;> decide
def binNum (l : List Nat) : Nat := l.foldl (fun a c => a * 2 + Hx.hv c) 0
theorem step_bin {ds : Array Nat} {b : Bool} {c : Nat} (h : IsBin c) : PySem.NumText.step 2 (ds, b) c = some (ds.push (Hx.hv c), true) := by
  unfold PySem.NumText.step
  rw [if_neg (by rw [beq_iff_eq]; exact (Hx.hex_rng h.hex).2.2), Hx.digit_hex h.hex]
  exact if_pos h.lt
theorem fold_bin : ∀ (cs : List Nat) (ds : Array Nat), (∀ c ∈ cs, IsBin c) → cs.foldlM (PySem.NumText.step 2) (ds, true) = some (cs.foldl (fun acc c => acc.push (Hx.hv c)) ds, true)
  | [], _, _ => rfl
  | c :: cs, ds, h => by
    rw [List.foldlM_cons, step_bin (h c List.mem_cons_self)]
    exact fold_bin cs _ fun d hd => h d (List.mem_cons_of_mem _ hd)
theorem digits_bin {cs : List Nat} (h : ∀ c ∈ cs, IsBin c) (hne : cs ≠ []) : digits? 2 cs = some (cs.foldl (fun acc c => acc.push (Hx.hv c)) #[]) := by
  cases cs with
  | nil => exact absurd rfl hne
  | cons c cs =>
    unfold digits?
    rw [List.foldlM_cons, step_bin (h c List.mem_cons_self)]
    show (cs.foldlM (PySem.NumText.step 2) ((#[] : Array Nat).push (Hx.hv c), true)).bind _ = _
    rw [fold_bin cs _ fun d hd => h d (List.mem_cons_of_mem _ hd)]
    rfl
theorem push_bin : ∀ (cs : List Nat) (ds : Array Nat), (cs.foldl (fun acc c => acc.push (Hx.hv c)) ds).foldl (fun acc d => acc * 2 + d) 0 = cs.foldl (fun a c => a * 2 + Hx.hv c) (ds.foldl (fun acc d => acc * 2 + d) 0)
  | [], _ => rfl
  | c :: cs, ds => by
    rw [List.foldl_cons, push_bin cs, List.foldl_cons]
    congr 1
    simp
theorem based_bin : ∀ {cs : List Nat}, (∀ c ∈ cs, IsBin c) → based 2 cs = (2, false, cs)
  | [], _ => rfl
  | [a], h => by rcases h a List.mem_cons_self with rfl | rfl <;> rfl
  | a :: c :: r, h => by
    rcases h a List.mem_cons_self with rfl | rfl <;> rcases h c (List.mem_cons_of_mem _ List.mem_cons_self) with rfl | rfl <;> rfl
theorem read_bin {cs : List Nat} (h : ∀ c ∈ cs, IsBin c) (hne : cs ≠ []) : (int_private% "readNumeral") 0 2 cs = (int_private% "Numeral.value") ((binNum cs : Nat) : Int) := by
  have hx : ∀ c ∈ cs, Hx.IsHex c := fun c hc => (h c hc).hex
  have hr : ∀ c ∈ cs.reverse, Hx.IsHex c := fun c hc => hx c (List.mem_reverse.mp hc)
  refine (readNumeral_eq 0 2 cs).trans ?_
  rw [Hx.dropB hx, Hx.signH hx]
  show judge 0 false (based 2 cs).1 (based 2 cs).2.1 (digits? (based 2 cs).1 (((based 2 cs).2.2.reverse.dropWhile blank).reverse)) = _
  rw [based_bin h]
  show judge 0 false 2 false (digits? 2 ((cs.reverse.dropWhile blank).reverse)) = _
  rw [Hx.dropB hr, List.reverse_reverse, digits_bin h hne]
  show (int_private% "Numeral.value") (((cs.foldl (fun acc c => acc.push (Hx.hv c)) (#[] : Array Nat)).foldl (fun acc d => acc * 2 + d) 0 : Nat) : Int) = _
  have z : (#[] : Array Nat).foldl (fun acc d => acc * 2 + d) 0 = 0 := by first | rfl | simp
  rw [push_bin, z] <;> rfl
theorem gives_bin {x : PySem.Str} {u t : Tok} (hl : x.length ≤ 640) (h : ∀ c ∈ x.cps.toList, IsBin c) (hne : x.cps.toList ≠ []) :
    Gives (Builtin.«int.__new__» ⟨[.type "int", .str x u, .int 2 t], []⟩) (.int ((binNum x.cps.toList : Nat) : Int)) :=
  .of_wp fun M A E s Q hQ => by
    obtain ⟨hp, g, d, tk, os⟩ := s
    have f1 := F.conv_sub_int
    have f2 := F.madeHere_int
    have f6 : typeOf (.str x u) = pure (.type "str") := rfl
    obtain ⟨e1, e2⟩ := Hx.seen_hex fun c hc => (h c hc).hex
    have hs : (numSeenOf x).length ≤ 640 := by
      rw [e2, Array.length_toList]
      exact hl
    have hr : (int_private% "readNumeral") 0 2 (numSeenOf x) = (int_private% "Numeral.value") ((binNum x.cps.toList : Nat) : Int) := by
      rw [e2]
      exact read_bin h hne
    have ha : ((numSeenOf x).length == (numTextOf x).length) = true := by
      rw [e1, e2]
      exact beq_self_eq_true _
    have hk := Hx.Hid.mk (And.intro hs (And.intro hr ha))
    clear hs hr ha e1 e2 hl hne h
    repeat (any_goals (first
      | assumption
      | ((with_reducible show wpAny _ _ ((int_private% "intFromText") _ _ _) _ _ _); refine Hx.wp_textB hk.out.1 hk.out.2.1 hk.out.2.2 ?_)
      | wp_step))
    all_goals first | exact ⟨_, rfl, hQ⟩ | skip
/-- int(t, 2) -/
def rIntBin : List V → Hp → VK → Prop := fun xs H Q => ∃ l : List Nat, xs = [.str (SX.S l), .int 2] ∧ l ≠ [] ∧ l.length ≤ 640 ∧ (∀ c ∈ l, IsBin c) ∧ Q (.int ((binNum l : Nat) : Int)) H
theorem cr_intBin {X : Cx} : CallR X (.type "int") rIntBin := by
  intro pins s σ H xs us Q I r h
  obtain ⟨l, rfl, hne, hl, hx, q⟩ := h
  obtain ⟨u, w', rfl, r1, r2⟩ := vals2 r
  obtain ⟨t1, rfl⟩ := r1
  obtain ⟨t2, rfl⟩ := r2
  exact callType_new F.called_int F.newNe_int (Hx.typeCall_int_2 _ _) (Hx.newCall_int_2 _ _) (fun obj => F.initArgs_range_2 obj _ _) F.entry_int_new (gives_bin (x := SX.S l) (by rw [SX.S_len]; exact hl) hx hne).meets
    (show (Made.int ((binNum l : Nat) : Int)).post _ s from ⟨rfl, ⟨.int ((binNum l : Nat) : Int), H, I.tok _, ⟨_, rfl⟩, q⟩⟩)
end Kn.Bi
/-! ### f'{n:b}' -/
namespace Kn.Bi
open PySem PySem.Spec PyProof.Rows L2 PySem.NumText PySem.Calls PySem.W Builtin.Float
def digB (n : Nat) : List Nat := (Nat.toDigits 2 n).map Char.toNat
def fB : FormatSpec := { align := 62, type := some 98 }
theorem parse_b : parseFormatSpec (Str.ofString "b").cps.toList "int" 62 = .ok fB := by kernel_rfl
theorem digB_ne (n : Nat) : digB n ≠ [] := fun z => by
  have h1 := tDigits_len_ge 2 n
  have h2 : (digB n).length = (Nat.toDigits 2 n).length := List.length_map _
  rw [z, List.length_nil] at h2
  omega
theorem field_eq (ds : List Nat) (h : ds ≠ []) : intField' fB false [] ds [] 4 = SX.S ds := by
  unfold intField' fB
  cases ds with
  | nil => exact absurd rfl h
  | cons c r =>
    simp
    omega
theorem field_b {a : Int} (h0 : 0 ≤ a) : intField' fB (decide (a < 0)) [] (digB a.natAbs) [] 4 = SX.S (digB a.natAbs) := by
  rw [decide_eq_false (by omega)]
  exact field_eq _ (digB_ne _)
theorem meets_b {a : Int} {t u : Tok} (h0 : 0 ≤ a) (hl : (digB a.natAbs).length ≤ 100000) : Meets (Builtin.«int.__format__» ⟨[.int a t, .str "b" u], []⟩) (fun _ R s => ∀ t' k, R (.ok (.ret (.str (SX.S (digB a.natAbs)) t'))) { s with toks := k }) := by
  apply KPc.meets_of
  intro _ _ _ _ _ _ hQ
  unfold Builtin.«int.__format__»
  refine wpAny_bind (wpAny_of_eq (a := (_, _)) rfl ?_)
  refine wpAny_bind (wpAny_of_eq (a := _) rfl ?_)
  kxf_if
  refine wpAny_bind (wpAny_typeNameOf (T := "str") (typeIs_str _ _ _) (by decide) fun _ => ?_)
  refine wpAny_bind (wpAny_of_eq (a := some _) rfl ?_)
  kxf_if
  kxf_if
  refine wpAny_bind (wpAny_typeNameOfCut_int ?_)
  rw [parse_b]
  dsimp only
  rw [if_pos (by decide +kernel)]
  show wpAny _ _ (retStr (intField' fB (decide (a < 0)) [] (digB a.natAbs) [] 4)) _ _ _
  exact KXf.ret_text (field_b h0) (by rw [field_b h0, SX.S_len]; exact Evl.sz_of hl) hQ
/-- {x:b} -/
def tFmtB (te : TE) : TE := fun σ H Q => te σ H fun x H1 => ∃ i : Int, x = .int i ∧ 0 ≤ i ∧ (digB i.natAbs).length ≤ 100000 ∧ Q (.str (SX.S (digB i.natAbs))) H1
theorem pe_fmtB {X : Cx} {e sp : Expr} {te : TE} {pos : Pos} (he : PE X e te) (hs : PE X sp (tC (.str "b"))) : PE X (.FormattedValue e (-1) (some sp) pos) (tFmtB te) := by
  refine ⟨fun pins s σ H Q I h => ?_⟩
  refine wpAny_FormattedValue_spec (thn (he.run pins s σ H _ I h) fun v s1 ⟨x, H1, I1, r1, i, ex, h0, hl, q⟩ => ?_)
  subst ex
  obtain ⟨t, rfl⟩ := r1
  refine thn (hs.run pins s1 σ H1 (fun v H2 => v = .str "b" ∧ H2 = H1) I1 ⟨rfl, rfl⟩) fun r s2 ⟨y, H2, I2, r2, ey, eH⟩ => ?_
  subst ey
  subst eH
  obtain ⟨t2, rfl⟩ := r2
  exact ⟨_, t2, rfl, KXf.field_int rfl (by decide +kernel) (by decide +kernel) (fun u => meets_b h0 hl) fun t' k => ⟨.str (SX.S (digB i.natAbs)), H2, I2.tok _, ⟨_, rfl⟩, q⟩⟩
end Kn.Bi
/-! ### comprehensions over ranges -/
namespace Kn
open PySem PySem.Spec PyProof.Rows L2 Evl SX
section
variable {K : PySem.W.Frag} {σ : L2.St} {H H' : Hp} {ta tb te tc : TE} {t u : TT} {x y z v : V} {D : Ends} {tu tw tz : TS}
theorem el_lcR2 {ta : TA} {j : Nat} {vs : List Nat} {lo hi : Int} (f : Nat → Bool) (v : Nat → V) (h : EvA ta σ H [.int lo, .int hi]) (hb : 0 ≤ lo ∧ lo ≤ hi ∧ hi ≤ 40000) (hw : ∀ x, wipe ((wipe σ vs).set j (some x)) vs = wipe σ vs)
    (ht : ∀ (i : Nat) H1, Ex H H1 → lo + (i : Int) < hi → EvT t ((wipe σ vs).set j (some (.int (lo + (i : Int))))) H1 (f i)) (he : ∀ (i : Nat) H1, Ex H H1 → lo + (i : Int) < hi → f i = true → Ev te ((wipe σ vs).set j (some (.int (lo + (i : Int))))) H1 (v i)) :
    EvL (tLc (iRng2 ta) (gName j) t te vs) σ H (given (hi - lo).toNat f v) := fun H0 e Q q => h H0 e _ fun H1 e1 => ⟨lo, hi, rfl, ⟨by omega, by omega, by omega, by omega⟩, fun Dl hD =>
  lc_it walk_range (Cw H1 f v Dl) ⟨hD, Ex.new hD, upd_same⟩ (fun _ _ _ _ => trivial) (fun i x H2 H3 hi p y => by
    obtain ⟨rfl, rfl⟩ := y
    exact ⟨hw _, cw_turn p (by omega) (ht i H1 (e.trans e1) (by omega)) (fun hf => he i H1 (e.trans e1) (by omega) hf)⟩) (fun H' p => q Dl H' (fresh_back e1 p.1) (e1.trans p.2.1) p.2.2)⟩
theorem range7 (c : Nat) (hc : c ≤ 5000) : RgC 1 (((1 + 7 * c : Nat) : Int)) 7 c := by
  have e : Builtin.Range.rangeSize 1 (((1 + 7 * c : Nat) : Int)) 7 = (c : Int) := by
    unfold Builtin.Range.rangeSize
    rw [if_pos (by decide)]
    split <;> omega
  have fit : ∀ i : Int, 0 ≤ i → i ≤ 100000 → Builtin.Range.rangeFitsLong i = true := fun i h1 h2 => by
    unfold Builtin.Range.rangeFitsLong
    rw [decide_eq_true (by omega), decide_eq_true (by omega)]
    rfl
  refine ⟨by decide, by decide, ?_, e⟩
  unfold Builtin.Range.small
  rw [e, fit 1 (by decide) (by decide), fit _ (by omega) (by omega), fit 7 (by decide) (by decide), fit (c : Int) (by omega) (by omega), if_pos (by decide), fit _ (by omega) (by omega), Bool.or_true]
  rfl
theorem el_lcR7 {ta : TA} {j : Nat} {vs : List Nat} {c : Nat} (v : Nat → V) (h : EvA ta σ H [.int 1, .int (((1 + 7 * c : Nat) : Int)), .int 7]) (hc : c ≤ 5000) (hw : ∀ x, wipe ((wipe σ vs).set j (some x)) vs = wipe σ vs)
    (he : ∀ (i : Nat) H1, Ex H H1 → i < c → Ev te ((wipe σ vs).set j (some (.int (1 + (i : Nat) * 7)))) H1 (v i)) :
    EvL (tLc (iRng3 ta) (gName j) tYes te vs) σ H (given c (fun _ => true) v) := fun H0 e Q q => h H0 e _ fun H1 e1 => ⟨1, _, 7, c, rfl, range7 c hc, fun Dl hD =>
  lc_it walk_rangeC (Cw H1 (fun _ => true) v Dl) ⟨hD, Ex.new hD, upd_same⟩ (fun _ _ _ _ => trivial) (fun i x H2 H3 hi p y => by
    obtain ⟨rfl, rfl⟩ := y
    exact ⟨hw _, cw_turn p (by omega) et_yes (fun hf => he i H1 (e.trans e1) hi)⟩) (fun H' p => q Dl H' (fresh_back e1 p.1) (e1.trans p.2.1) p.2.2)⟩
theorem ev_intBin {l : List Nat} (h : EvA (tCons ta (tCons tb tNil)) σ H [.str (S l), .int 2]) (hne : l ≠ []) (hl : l.length ≤ 640) (hb : ∀ c ∈ l, Bi.IsBin c) : Ev (tCB Bi.rIntBin (tCons ta (tCons tb tNil))) σ H (.int ((Bi.binNum l : Nat) : Int)) := fun H1 e Q q =>
  h H1 e _ fun H2 e2 => ⟨l, rfl, hne, hl, hb, q H2 e2⟩
theorem ev_fmtB {n : Nat} (h : Ev te σ H (.int (n : Int))) (hl : (Bi.digB n).length ≤ 100000) : Ev (Bi.tFmtB te) σ H (.str (S (Bi.digB n))) := fun H1 e Q q =>
  h H1 e _ fun H2 e2 => ⟨(n : Int), rfl, by omega, hl, q H2 e2⟩
end
end Kn

/-! ### f'{n:07b}' -/
namespace Kn.Bi
open PySem PySem.Spec PyProof.Rows L2 PySem.NumText PySem.Calls PySem.W Builtin.Float
def f7 : FormatSpec := { fill := 48, align := 61, width := some 7, type := some 98 }
theorem parse_7 : parseFormatSpec (Str.ofString "07b").cps.toList "int" 62 = .ok f7 := by kernel_rfl
def pad7 (d : Nat) : List Nat := [48 + d / 64 % 2, 48 + d / 32 % 2, 48 + d / 16 % 2, 48 + d / 8 % 2, 48 + d / 4 % 2, 48 + d / 2 % 2, 48 + d % 2]
theorem field_7 : ∀ d : Nat, d < 128 → intField' f7 false [] (digB d) [] 4 = SX.S (pad7 d) := by decide +kernel
theorem meets_7 {d : Nat} {t u : Tok} (hd : d < 128) : Meets (Builtin.«int.__format__» ⟨[.int (d : Int) t, .str "07b" u], []⟩) (fun _ R s => ∀ t' k, R (.ok (.ret (.str (SX.S (pad7 d)) t'))) { s with toks := k }) := by
  apply KPc.meets_of
  intro _ _ _ _ _ _ hQ
  unfold Builtin.«int.__format__»
  refine wpAny_bind (wpAny_of_eq (a := (_, _)) rfl ?_)
  refine wpAny_bind (wpAny_of_eq (a := _) rfl ?_)
  kxf_if
  refine wpAny_bind (wpAny_typeNameOf (T := "str") (typeIs_str _ _ _) (by decide) fun _ => ?_)
  refine wpAny_bind (wpAny_of_eq (a := some _) rfl ?_)
  kxf_if
  kxf_if
  refine wpAny_bind (wpAny_typeNameOfCut_int ?_)
  rw [parse_7]
  dsimp only
  rw [if_pos (by decide +kernel)]
  show wpAny _ _ (retStr (intField' f7 (decide ((d : Int) < 0)) [] (digB (d : Int).natAbs) [] 4)) _ _ _
  have e : intField' f7 (decide ((d : Int) < 0)) [] (digB (d : Int).natAbs) [] 4 = SX.S (pad7 d) := by
    rw [decide_eq_false (by omega), Int.natAbs_natCast]
    exact field_7 d hd
  exact KXf.ret_text e (by rw [e, SX.S_len]; exact Evl.sz_of (by show 7 ≤ 100000; decide)) hQ
/-- {x:07b} of a small number -/
def tFmt7 (te : TE) : TE := fun σ H Q => te σ H fun x H1 => ∃ d : Nat, x = .int (d : Int) ∧ d < 128 ∧ Q (.str (SX.S (pad7 d))) H1
theorem pe_fmt7 {X : Cx} {e sp : Expr} {te : TE} {pos : Pos} (he : PE X e te) (hs : PE X sp (tC (.str "07b"))) : PE X (.FormattedValue e (-1) (some sp) pos) (tFmt7 te) := by
  refine ⟨fun pins s σ H Q I h => ?_⟩
  refine wpAny_FormattedValue_spec (thn (he.run pins s σ H _ I h) fun v s1 ⟨x, H1, I1, r1, d, ex, hd, q⟩ => ?_)
  subst ex
  obtain ⟨t, rfl⟩ := r1
  refine thn (hs.run pins s1 σ H1 (fun v H2 => v = .str "07b" ∧ H2 = H1) I1 ⟨rfl, rfl⟩) fun r s2 ⟨y, H2, I2, r2, ey, eH⟩ => ?_
  subst ey
  subst eH
  obtain ⟨t2, rfl⟩ := r2
  exact ⟨_, t2, rfl, KXf.field_int rfl (by decide +kernel) (by decide +kernel) (fun u => meets_7 hd) fun t' k => ⟨.str (SX.S (pad7 d)), H2, I2.tok _, ⟨_, rfl⟩, q⟩⟩
end Kn.Bi
/-! ### int(t, 2) of long texts -/
namespace Kn.Bi
open PySem PySem.Spec PyProof.Rows L2 PySem.NumText PySem.Calls
theorem wp_textL {M : Model} {A : Around} {E : Value → Shared → Prop} {s : Shared} {Q : Value → Shared → Prop} {v : Value} {text : List Nat} {B : Nat} {n : Int}
    (hK : PySem.W.Looks M s.heap (nsGet cStatics "sys.int_max_str_digits") none) (hs : ¬ (text.takeWhile (· != 0)).length ≤ 640)
    (hr : (int_private% "readNumeral") 4300 B (text.takeWhile (· != 0)) = (int_private% "Numeral.value") n)
    (ha : ((text.takeWhile (· != 0)).length == text.length) = true) (h : Q (.int n s.toks) { s with toks := s.toks + 1 }) :
    wpAny M A ((int_private% "intFromText") v text B) Q E s := by
  obtain ⟨hp, g, d, tk, os⟩ := s
  have hm : ∀ {Q : Nat → Shared → Prop} {E : Value → Shared → Prop}, Q 4300 ⟨hp, g, d, tk, os⟩ → wpAny M A Builtin.intMaxStrDigits Q E ⟨hp, g, d, tk, os⟩ := fun q => by
    unfold Builtin.intMaxStrDigits
    exact wpAny_bind (hK.here (wpAny_pure q))
  repeat (any_goals (first
    | assumption
    | (with_reducible refine wpAny_ite_false (decide_eq_false hs) ?_)
    | (with_reducible refine hm ?_)
    | (with_reducible refine wpAny_ite_true (decide_eq_true ha) ?_)
    | wp_step))
  all_goals (try rw [hr])
  all_goals (try dsimp only)
  repeat (any_goals (first
    | assumption
    | (with_reducible refine wpAny_ite_true (decide_eq_true ha) ?_)
    | wp_step))
theorem read_binL {cs : List Nat} (h : ∀ c ∈ cs, IsBin c) (hne : cs ≠ []) : (int_private% "readNumeral") 4300 2 cs = (int_private% "Numeral.value") ((binNum cs : Nat) : Int) := by
  have hx : ∀ c ∈ cs, Hx.IsHex c := fun c hc => (h c hc).hex
  have hr : ∀ c ∈ cs.reverse, Hx.IsHex c := fun c hc => hx c (List.mem_reverse.mp hc)
  refine (readNumeral_eq 4300 2 cs).trans ?_
  rw [Hx.dropB hx, Hx.signH hx]
  show judge 4300 false (based 2 cs).1 (based 2 cs).2.1 (digits? (based 2 cs).1 (((based 2 cs).2.2.reverse.dropWhile blank).reverse)) = _
  rw [based_bin h]
  show judge 4300 false 2 false (digits? 2 ((cs.reverse.dropWhile blank).reverse)) = _
  rw [Hx.dropB hr, List.reverse_reverse, digits_bin h hne]
  show (int_private% "Numeral.value") (((cs.foldl (fun acc c => acc.push (Hx.hv c)) (#[] : Array Nat)).foldl (fun acc d => acc * 2 + d) 0 : Nat) : Int) = _
  have z : (#[] : Array Nat).foldl (fun acc d => acc * 2 + d) 0 = 0 := by first | rfl | simp
  rw [push_bin, z] <;> rfl
def NoDig (h : Heap) : Prop := ∀ M : Model, PySem.W.Looks M h (nsGet cStatics "sys.int_max_str_digits") none
theorem meets_binL {x : PySem.Str} {u t : Tok} (hl : ¬ x.length ≤ 640) (h : ∀ c ∈ x.cps.toList, IsBin c) (hne : x.cps.toList ≠ []) :
    Meets (Builtin.«int.__new__» ⟨[.type "int", .str x u, .int 2 t], []⟩) (fun _ R s => NoDig s.heap ∧ R (.ok (.ret (.int ((binNum x.cps.toList : Nat) : Int) s.toks))) { s with toks := s.toks + 1 }) :=
  .of_wp fun prog w A R s ⟨hd, hQ⟩ => by
    obtain ⟨hp, g, d, tk, os⟩ := s
    have f1 := F.conv_sub_int
    have f2 := F.madeHere_int
    have f6 : typeOf (.str x u) = pure (.type "str") := rfl
    obtain ⟨e1, e2⟩ := Hx.seen_hex fun c hc => (h c hc).hex
    have hs : ¬ (numSeenOf x).length ≤ 640 := by
      rw [e2, Array.length_toList]
      exact hl
    have hr : (int_private% "readNumeral") 4300 2 (numSeenOf x) = (int_private% "Numeral.value") ((binNum x.cps.toList : Nat) : Int) := by
      rw [e2]
      exact read_binL h hne
    have ha : ((numSeenOf x).length == (numTextOf x).length) = true := by
      rw [e1, e2]
      exact beq_self_eq_true _
    have hk := Hx.Hid.mk (And.intro (hd (model prog w)) (And.intro hs (And.intro hr ha)))
    clear hs hr ha e1 e2 hl hne h
    repeat (any_goals (first
      | assumption
      | ((with_reducible show wpAny _ _ ((int_private% "intFromText") _ _ _) _ _ _); refine wp_textL hk.out.1 hk.out.2.1 hk.out.2.2.1 hk.out.2.2.2 ?_)
      | wp_step))
    all_goals first | exact ⟨_, rfl, hQ⟩ | skip
/-- int(t, 2) of any text -/
def rIntBinL : List V → Hp → VK → Prop := fun xs H Q => ∃ l : List Nat, xs = [.str (SX.S l), .int 2] ∧ l ≠ [] ∧ (∀ c ∈ l, IsBin c) ∧ Q (.int ((binNum l : Nat) : Int)) H
theorem cr_intBinL {X : Cx} (hd : PySem.W.nsIn X.K cStatics "sys.int_max_str_digits" = some none) : CallR X (.type "int") rIntBinL := by
  intro pins s σ H xs us Q I r h
  obtain ⟨l, rfl, hne, hx, q⟩ := h
  by_cases hl : l.length ≤ 640
  · exact cr_intBin pins s σ H _ us Q I r ⟨l, rfl, hne, hl, hx, q⟩
  · obtain ⟨u, w', rfl, r1, r2⟩ := vals2 r
    obtain ⟨t1, rfl⟩ := r1
    obtain ⟨t2, rfl⟩ := r2
    have nd : NoDig s.heap := fun M => PySem.W.looks_nsIn I.kIn hd
    exact callType_new F.called_int F.newNe_int (Hx.typeCall_int_2 _ _) (Hx.newCall_int_2 _ _) (fun obj => F.initArgs_range_2 obj _ _) F.entry_int_new (meets_binL (x := SX.S l) (by rw [SX.S_len]; exact hl) hx hne)
      ⟨nd, rfl, ⟨.int ((binNum l : Nat) : Int), H, I.tok _, ⟨_, rfl⟩, q⟩⟩
end Kn.Bi

namespace My
open PySem PySem.Spec PyProof.Rows L2 Evl SX Kn Kn.Bi
def topS (i : Nat) : Stmt := PySem.Challenge.pw_kilnyard_k01_key_of_a_text.main.body.getD i (.Pass ⟨0, 0, 0, 0⟩)
abbrev s_content_key : Stmt := topS 11
abbrev N_content_key : List Str := ["text", "sign"]
theorem sc_content_key : FnScope N_content_key ["text"] (defScope s_content_key) := ⟨rfl, rfl, rfl, by decide +kernel, rfl, by decide +kernel, by decide +kernel⟩
abbrev s_key_text : Stmt := topS 12
abbrev N_key_text : List Str := ["key", "codes", "code"]
theorem sc_key_text : FnScope N_key_text ["key"] (defScope s_key_text) := ⟨rfl, rfl, rfl, by decide +kernel, rfl, by decide +kernel, by decide +kernel⟩
abbrev s__is_code : Stmt := topS 13
abbrev N__is_code : List Str := ["code"]
theorem sc__is_code : FnScope N__is_code ["code"] (defScope s__is_code) := ⟨rfl, rfl, rfl, by decide +kernel, rfl, by decide +kernel, by decide +kernel⟩
abbrev s__codes : Stmt := topS 14
abbrev N__codes : List Str := ["key", "bits", "at"]
theorem sc__codes : FnScope N__codes ["key"] (defScope s__codes) := ⟨rfl, rfl, rfl, by decide +kernel, rfl, by decide +kernel, by decide +kernel⟩
abbrev s__sign : Stmt := topS 15
abbrev N__sign : List Str := ["code"]
theorem sc__sign : FnScope N__sign ["code"] (defScope s__sign) := ⟨rfl, rfl, rfl, by decide +kernel, rfl, by decide +kernel, by decide +kernel⟩
abbrev s__law_cell : Stmt := topS 17
abbrev N__law_cell : List Str := ["script", "k"]
theorem sc__law_cell : FnScope N__law_cell ["script", "k"] (defScope s__law_cell) := ⟨rfl, rfl, rfl, by decide +kernel, rfl, by decide +kernel, by decide +kernel⟩
abbrev s__law_text : Stmt := topS 18
abbrev N__law_text : List Str := ["numbers", "chars", "number"]
theorem sc__law_text : FnScope N__law_text ["numbers"] (defScope s__law_text) := ⟨rfl, rfl, rfl, by decide +kernel, rfl, by decide +kernel, by decide +kernel⟩
abbrev s__law_is_integer : Stmt := topS 19
abbrev N__law_is_integer : List Str := ["value"]
theorem sc__law_is_integer : FnScope N__law_is_integer ["value"] (defScope s__law_is_integer) := ⟨rfl, rfl, rfl, by decide +kernel, rfl, by decide +kernel, by decide +kernel⟩
abbrev s__law_key : Stmt := topS 20
abbrev N__law_key : List Str := ["text", "key", "char"]
theorem sc__law_key : FnScope N__law_key ["text"] (defScope s__law_key) := ⟨rfl, rfl, rfl, by decide +kernel, rfl, by decide +kernel, by decide +kernel⟩
abbrev s_law : Stmt := topS 21
abbrev N_law : List Str := ["script", "numbers", "first", "other", "at", "text", "key", "back", "cell", "k"]
theorem sc_law : FnScope N_law ["script"] (defScope s_law) := ⟨rfl, rfl, rfl, by decide +kernel, rfl, by decide +kernel, by decide +kernel⟩
abbrev s_InvalidKey___init__ : Stmt := inClass (topS 2) 0
abbrev N_InvalidKey___init__ : List Str := ["self", "key"]
theorem sc_InvalidKey___init__ : FnScope N_InvalidKey___init__ ["self", "key"] (defScope s_InvalidKey___init__) := ⟨rfl, rfl, rfl, by decide +kernel, rfl, by decide +kernel, by decide +kernel⟩
structure Tx (mg : Str → Option Value) : Prop where
  b_abs : mg "abs" = none
  b_all : mg "all" = none
  b_bool : mg "bool" = none
  b_int : mg "int" = none
  b_isinstance : mg "isinstance" = none
  b_len : mg "len" = none
  b_list : mg "list" = none
  b_ord : mg "ord" = none
  b_range : mg "range" = none
  b_str : mg "str" = none
  c_NEWLINE : ∃ u, mg "NEWLINE" = some u ∧ RelV (.int 10) u
  c_SPACE : ∃ u, mg "SPACE" = some u ∧ RelV (.int 32) u
  c_PERCENT : ∃ u, mg "PERCENT" = some u ∧ RelV (.int 37) u
  c_TILDE : ∃ u, mg "TILDE" = some u ∧ RelV (.int 126) u
  c_SIGNS_BEFORE : ∃ u, mg "SIGNS_BEFORE" = some u ∧ RelV (.str (Str.ofString " !\"#$")) u
  c_SIGNS_BEHIND : ∃ u, mg "SIGNS_BEHIND" = some u ∧ RelV (.str (Str.ofString "&'()*+,-./0123456789:;<=>?@ABCDEFGHIJKLMNOPQRSTUVWXYZ[\\]^_`abcdefghijklmnopqrstuvwxyz{|}~")) u
  c_DIGIT_BITS : ∃ u, mg "DIGIT_BITS" = some u ∧ RelV (.int 7) u
local macro_rules | `(tactic| walk_at "ev") => `(tactic| first
  | exact ev_c
  | exact ev_var rfl
  | exact ea_nil
  | exact eo_none
  | (apply eo_some; walk_at "ev")
  | (apply ea_cons <;> walk_at "ev")
  | (apply ev_op <;> first | walk_at "rv" | walk_at "ev")
  | (apply ev_un <;> first | exact ru_neg | walk_at "ev")
  | (apply ev_chain <;> first | walk_at "rv" | walk_at "ev")
  | (apply et_test; walk_at "ev")
  | (apply et_B; walk_at "ev")
  | (apply et_not; walk_at "ev")
  | (apply et_and; walk_at "ev"; intro _; walk_at "ev")
  | (apply et_or; walk_at "ev"; intro _; walk_at "ev")
  | (apply ev_andV; walk_at "ev"; intro _; walk_at "ev")
  | (apply ev_orV; walk_at "ev"; intro _; walk_at "ev")
  | (apply ev_notV; walk_at "ev")
  | (apply ev_cb <;> first | walk_at "rc" | walk_at "ev"))
local macro_rules | `(tactic| walk_at "rv") => `(tactic| first
  | exact rv_eqI | exact rv_neI | exact rv_eqS | exact rv_neS | exact rv_le | exact rv_lt | exact rv_ge | exact rv_gt | exact rv_inS | exact rv_ninS
  | exact rv_I0
  | exact rv_pow ⟨by decide, by decide, by decide⟩
  | exact rv_mod (by first | decide | omega)
  | exact rv_fdiv ⟨by decide, by decide⟩
  | exact rv_fdiv ⟨by omega, by omega⟩
  | exact rv_addS (by first | assumption | omega)
  | exact rv_mul (.inr ⟨by decide, by decide⟩) | exact rv_mul (.inl ⟨by decide, by decide⟩)
  | exact rv_mul (by first | exact .inl ⟨by omega, by omega⟩ | exact .inr ⟨by omega, by omega⟩)
  | exact rv_eq rfl | exact rv_ne rfl)
local macro_rules | `(tactic| walk_at "rc") => `(tactic| first
  | exact rc_abs | exact rc_int | exact rc_intB | exact rc_ord
  | exact rc_lenS (by first | assumption | omega))

theorem digB_small {n : Nat} (h : n < 2) : digB n = [48 + n] := by
  unfold digB
  rw [Nat.toDigits_of_lt_base h]
  match n, h with
  | 0, _ => rfl
  | 1, _ => rfl
theorem digB_step {n : Nat} (h : 2 ≤ n) : digB n = digB (n / 2) ++ [48 + n % 2] := by
  have e : Nat.toDigits 2 n = Nat.toDigits 2 (n / 2) ++ [Nat.digitChar (n % 2)] := Nat.toDigits_of_base_le (by decide) h
  unfold digB
  rw [e, List.map_append]
  congr 1
  have : n % 2 < 2 := Nat.mod_lt _ (by decide)
  match n % 2, this with
  | 0, _ => rfl
  | 1, _ => rfl
theorem digB_seven {n : Nat} (h : 128 ≤ n) : digB n = digB (n / 128) ++ pad7 (n % 128) := by
  rw [digB_step (show 2 ≤ n by omega), digB_step (show 2 ≤ n / 2 by omega), digB_step (show 2 ≤ n / 2 / 2 by omega), digB_step (show 2 ≤ n / 2 / 2 / 2 by omega), digB_step (show 2 ≤ n / 2 / 2 / 2 / 2 by omega), digB_step (show 2 ≤ n / 2 / 2 / 2 / 2 / 2 by omega), digB_step (show 2 ≤ n / 2 / 2 / 2 / 2 / 2 / 2 by omega)]
  have e : n / 2 / 2 / 2 / 2 / 2 / 2 / 2 = n / 128 := by omega
  rw [e]
  simp only [List.append_assoc, List.cons_append, List.nil_append]
  unfold pad7
  have e0 : 48 + n / 2 / 2 / 2 / 2 / 2 / 2 % 2 = 48 + n % 128 / 64 % 2 := by omega
  have e1 : 48 + n / 2 / 2 / 2 / 2 / 2 % 2 = 48 + n % 128 / 32 % 2 := by omega
  have e2 : 48 + n / 2 / 2 / 2 / 2 % 2 = 48 + n % 128 / 16 % 2 := by omega
  have e3 : 48 + n / 2 / 2 / 2 % 2 = 48 + n % 128 / 8 % 2 := by omega
  have e4 : 48 + n / 2 / 2 % 2 = 48 + n % 128 / 4 % 2 := by omega
  have e5 : 48 + n / 2 % 2 = 48 + n % 128 / 2 % 2 := by omega
  have e6 : 48 + n % 2 = 48 + n % 128 % 2 := by omega
  rw [e0, e1, e2, e3, e4, e5, e6]
/-- digits to the base 128, the last first; f the most turns -/
def lowF : Nat → Nat → List Nat
  | 0, _ => []
  | f + 1, n => if n = 0 then [] else n % 128 :: lowF f (n / 128)
theorem lowF_snoc : ∀ (k n : Nat), lowF (k + 1) n = if n / 128 ^ k = 0 then lowF k n else lowF k n ++ [n / 128 ^ k % 128]
  | 0, n => by
    show (if n = 0 then [] else n % 128 :: []) = _
    rw [Nat.pow_zero, Nat.div_one]
    rfl
  | k + 1, n => by
    show (if n = 0 then [] else n % 128 :: lowF (k + 1) (n / 128)) = _
    have e : n / 128 / 128 ^ k = n / 128 ^ (k + 1) := by rw [Nat.div_div_eq_div_mul, Nat.pow_succ, Nat.mul_comm]
    by_cases h : n = 0
    · subst h
      rw [if_pos rfl, Nat.zero_div, if_pos rfl]
      rfl
    · rw [if_neg h, lowF_snoc k, e]
      have e2 : lowF (k + 1) n = n % 128 :: lowF k (n / 128) := if_neg h
      rw [e2]
      split <;> rfl
/-- the digits, the highest first -/
def digs (n : Nat) : List Nat := (lowF 700 n).reverse
/-- what the turns leave of the highest -/
theorem low_top : ∀ (f n : Nat), n ≠ 0 → n < 128 ^ f → ∃ t r, (lowF f n).reverse = t :: r ∧ (1 ≤ t ∧ t < 128) ∧ (∀ d ∈ r, d < 128) ∧ digB n = digB t ++ (r.map pad7).flatten
  | 0, n, h0, h => absurd (by rw [Nat.pow_zero] at h; omega) h0
  | f + 1, n, h0, h => by
    have e2 : lowF (f + 1) n = n % 128 :: lowF f (n / 128) := if_neg h0
    rw [e2, List.reverse_cons]
    by_cases hs : n < 128
    · have e : n / 128 = 0 := by omega
      have e3 : lowF f 0 = [] := by
        cases f with
        | zero => rfl
        | succ f => rfl
      rw [e, e3]
      refine ⟨n, [], ?_, ⟨by omega, hs⟩, (fun d hd => nomatch hd), ?_⟩
      · rw [Nat.mod_eq_of_lt hs]
        rfl
      · rw [List.map_nil, List.flatten_nil, List.append_nil]
    · obtain ⟨t, r, e1, ht, hr, hd⟩ := low_top f (n / 128) (by omega) (by rw [Nat.pow_succ] at h; omega)
      refine ⟨t, r ++ [n % 128], by rw [e1, List.cons_append], ht, fun d hd => ?_, ?_⟩
      · rcases List.mem_append.mp hd with z | z
        · exact hr d z
        · rw [List.mem_singleton.mp z]
          exact Nat.mod_lt _ (by decide)
      · rw [digB_seven (by omega), hd, List.map_append, List.flatten_append, List.append_assoc]
        simp
theorem pad7_len (d : Nat) : (pad7 d).length = 7 := rfl
theorem flat_len : ∀ r : List Nat, ((r.map pad7).flatten).length = 7 * r.length
  | [] => rfl
  | d :: r => by
    rw [List.map_cons, List.flatten_cons, List.length_append, flat_len r, pad7_len, List.length_cons]
    omega
theorem top_bits : ∀ t, t < 128 → 1 ≤ t → (decide ((digB t).length % 7 = 1) = decide (t = 1)) := by decide +kernel
theorem bin_pad : ∀ d, d < 128 → binNum (pad7 d) = d := by decide +kernel
theorem isbin_pad (d : Nat) : ∀ c ∈ pad7 d, IsBin c := fun c hc => by
  unfold pad7 at hc
  simp only [List.mem_cons, List.not_mem_nil, or_false] at hc
  unfold IsBin
  omega
theorem digB_one : digB 1 = [49] := by decide +kernel
theorem flat_drop : ∀ (r : List Nat) (i : Nat) (d : Nat), r[i]? = some d → (((r.map pad7).flatten).drop (7 * i)).take 7 = pad7 d
  | [], i, d, h => by simp at h
  | x :: r, 0, d, h => by
    have e : x = d := Option.some.inj h
    subst e
    rfl
  | x :: r, i + 1, d, h => by
    have e : 7 * (i + 1) = (pad7 x).length + 7 * i := by rw [pad7_len]; omega
    rw [List.map_cons, List.flatten_cons, e, List.drop_append, Nat.add_sub_cancel_left]
    rw [List.drop_eq_nil_of_le (by omega), List.nil_append]
    exact flat_drop r i d h
/-! ### the text of a key -/
/-- a number's digits to the base 128, the highest first: the highest and the others -/
structure Dg (n t : Nat) (r : List Nat) : Prop where
  rev : (lowF 700 n).reverse = t :: r
  top : 1 ≤ t ∧ t < 128
  all : ∀ d ∈ r, d < 128
  bits : digB n = digB t ++ (r.map pad7).flatten
theorem dg_of {n : Nat} (h0 : n ≠ 0) (h : n < 128 ^ 700) : ∃ t r, Dg n t r := by
  obtain ⟨t, r, h1, h2, h3, h4⟩ := low_top 700 n h0 h
  exact ⟨t, r, h1, h2, h3, h4⟩
theorem Dg.len {n t : Nat} {r : List Nat} (D : Dg n t r) : (digB n).length = (digB t).length + 7 * r.length := by
  rw [D.bits, List.length_append, flat_len]
theorem Dg.rem {n t : Nat} {r : List Nat} (D : Dg n t r) : (digB n).length % 7 = 1 ↔ t = 1 := by
  have h := top_bits t D.top.2 D.top.1
  have e : (digB n).length % 7 = (digB t).length % 7 := by
    rw [D.len]
    omega
  rw [e]
  exact decide_eq_decide.mp h
theorem Dg.len1 {n : Nat} {r : List Nat} (D : Dg n 1 r) : (digB n).length = 1 + 7 * r.length := by
  rw [D.len, digB_one]
  rfl
theorem Dg.cut {n : Nat} {r : List Nat} (D : Dg n 1 r) {i d : Nat} (h : r[i]? = some d) : ((digB n).drop (1 + 7 * i)).take 7 = pad7 d := by
  rw [D.bits, digB_one, show 1 + 7 * i = ([49] : List Nat).length + 7 * i from rfl, List.drop_append, Nat.add_sub_cancel_left, List.drop_eq_nil_of_le (by omega), List.nil_append]
  exact flat_drop r i d h
theorem low_len : ∀ f n, (lowF f n).length ≤ f
  | 0, _ => Nat.le_refl _
  | f + 1, n => by
    show (if n = 0 then [] else n % 128 :: lowF f (n / 128)).length ≤ f + 1
    split
    · exact Nat.zero_le _
    · rw [List.length_cons]
      have := low_len f (n / 128)
      omega
theorem Dg.rlen {n t : Nat} {r : List Nat} (D : Dg n t r) : r.length ≤ 699 := by
  have h := congrArg List.length D.rev
  rw [List.length_reverse, List.length_cons] at h
  have := low_len 700 n
  omega
theorem digB_top_len : ∀ t, t < 128 → (digB t).length ≤ 7 := by decide +kernel

def isCode (n : Int) : Bool := decide (n = 10) || ((decide (32 ≤ n) && decide (n ≤ 126)) && !decide (n = 37))
section
variable {P : Program} {w : World} {K : PySem.W.Frag} {mg : Str → Option Value} {base : Heap}
def sp__is_code (_ : PySem.W.Frag) : Sp := sp1 (fun n : Int => [.int n]) (fun _ _ => True) (fun n => .bl (isCode n))
theorem ok__is_code {f : Addr} {fd : FuncData} (F : Fun K "_is_code" "_is_code" s__is_code f fd) (T : Tx mg)  : FnOk P w K mg base CX0 1 f fd ["code"] (sp__is_code K) := by
  refine F.ok sc__is_code (fun vs H Q E h => ?_) (fun cdv A outer s H vs Q E hr h => ?_)
  · obtain ⟨n, rfl, _⟩ := h
    rfl
  · obtain ⟨n, rfl, -, q⟩ := h
    refine ⟨_, (pss_one (ps_ret (pe_or (pe_cmpR op_eq (pv 0) (C8.pe_gc (by rfl) T.c_NEWLINE) (nomark _)) (pe_one (pe_and (pe_chain op_le op_le (C8.pe_gc (by rfl) T.c_SPACE) (pv 0) (C8.pe_gc (by rfl) T.c_TILDE)) (pe_one (pe_cmpR op_ne (pv 0) (C8.pe_gc (by rfl) T.c_PERCENT) (nomark _)))))))), ?_⟩
    apply s_ret
    · walk_at "ev"
    · exact q
end

def okText (l : List Nat) : Bool := l.all fun c => isCode (c : Int)
def signs1 : List Nat := (Str.ofString "\n !\"#$&'()*+,-./0123456789:;<=>?@ABCDEFGHIJKLMNOPQRSTUVWXYZ[\\]^_`").cps.toList
def signs2 : List Nat := (Str.ofString "abcdefghijklmnopqrstuvwxyz{|}~").cps.toList
def signs : List Nat := signs1 ++ signs2
theorem signs_len : signs.length = 95 := by decide +kernel
theorem signs_ok : signs.all (fun c => isCode (c : Int)) = true := by decide +kernel
def sign (n : Int) : Nat := signs.getD (n % 95).toNat 0
def lawText (ns : List Int) : List Nat := ns.map sign
theorem sign_at (n : Int) : atI signs (n % 95) = some (sign n) := by
  have h1 : 0 ≤ n % 95 := Int.emod_nonneg n (by decide)
  have h2 : n % 95 < 95 := Int.emod_lt_of_pos n (by decide)
  have h3 : (n % 95).toNat < signs.length := by rw [signs_len]; omega
  refine atI_nat' (j := (n % 95).toNat) (by omega) ?_
  unfold sign
  rw [List.getD_eq_getElem?_getD, List.getElem?_eq_getElem h3]
  rfl
theorem sign_ok (n : Int) : isCode ((sign n : Nat) : Int) = true := by
  have h2 : n % 95 < 95 := Int.emod_lt_of_pos n (by decide)
  have h1 : 0 ≤ n % 95 := Int.emod_nonneg n (by decide)
  have h3 : (n % 95).toNat < signs.length := by rw [signs_len]; omega
  unfold sign
  rw [List.getD_eq_getElem?_getD, List.getElem?_eq_getElem h3]
  exact List.all_eq_true.mp signs_ok _ (List.getElem_mem h3)
theorem lawText_ok (ns : List Int) : okText (lawText ns) = true := by
  unfold okText lawText
  rw [List.all_map, List.all_eq_true]
  exact fun n _ => sign_ok n
theorem flat1 : ∀ ns : List Int, (ns.map fun n => [sign n]).flatten = lawText ns
  | [] => rfl
  | n :: r => by
    rw [List.map_cons, List.flatten_cons, flat1 r]
    rfl
theorem lawText_len (ns : List Int) : (lawText ns).length = ns.length := List.length_map ..
theorem okText_app (a b : List Nat) : okText (a ++ b) = (okText a && okText b) := List.all_append

/-! ### the key of a text -/
def keyOf (l : List Nat) : Nat := l.foldl (fun a c => a * 128 + c) 1
def keyR : List Nat → Nat
  | [] => 1
  | c :: r => keyR r * 128 + c
theorem key_rev : ∀ r : List Nat, keyOf r.reverse = keyR r
  | [] => rfl
  | c :: r => by
    have h := key_rev r
    unfold keyOf at h ⊢
    rw [List.reverse_cons, List.foldl_append, h]
    rfl
theorem key_eq (l : List Nat) : keyOf l = keyR l.reverse := by
  have h := key_rev l.reverse
  rw [List.reverse_reverse] at h
  exact h
theorem keyR_pos : ∀ r, 1 ≤ keyR r
  | [] => Nat.le_refl _
  | c :: r => by
    have := keyR_pos r
    show 1 ≤ keyR r * 128 + c
    omega
theorem low_zero : ∀ f, lowF f 0 = []
  | 0 => rfl
  | _ + 1 => rfl
theorem lowR : ∀ (r : List Nat) (f : Nat), r.length < f → (∀ c ∈ r, c < 128) → lowF f (keyR r) = r ++ [1]
  | [], f + 1, _, _ => by
    show (1 % 128 :: lowF f (1 / 128)) = [1]
    rw [show 1 / 128 = 0 from rfl, low_zero]
  | c :: r, f + 1, hl, h => by
    have hp := keyR_pos r
    have hc := h c List.mem_cons_self
    show (if keyR r * 128 + c = 0 then [] else (keyR r * 128 + c) % 128 :: lowF f ((keyR r * 128 + c) / 128)) = _
    rw [if_neg (by omega), show (keyR r * 128 + c) % 128 = c by omega, show (keyR r * 128 + c) / 128 = keyR r by omega, lowR r f (by rw [List.length_cons] at hl; omega) fun d hd => h d (List.mem_cons_of_mem _ hd)]
    rfl
theorem digR : ∀ r : List Nat, (∀ c ∈ r, c < 128) → digB (keyR r) = digB 1 ++ (r.reverse.map pad7).flatten
  | [], _ => by
    rw [List.reverse_nil, List.map_nil, List.flatten_nil, List.append_nil]
    rfl
  | c :: r, h => by
    have hp := keyR_pos r
    have hc := h c List.mem_cons_self
    show digB (keyR r * 128 + c) = _
    rw [digB_seven (by omega), show (keyR r * 128 + c) % 128 = c by omega, show (keyR r * 128 + c) / 128 = keyR r by omega, digR r fun d hd => h d (List.mem_cons_of_mem _ hd), List.reverse_cons, List.map_append, List.flatten_append, List.append_assoc]
    simp
theorem dg_key {l : List Nat} (hl : l.length ≤ 600) (h : ∀ c ∈ l, c < 128) : Dg (keyOf l) 1 l := by
  have h2 : ∀ c ∈ l.reverse, c < 128 := fun c hc => h c (List.mem_reverse.mp hc)
  refine ⟨?_, by decide, h, ?_⟩
  · rw [key_eq, lowR l.reverse 700 (by rw [List.length_reverse]; omega) h2, List.reverse_append, List.reverse_reverse]
    rfl
  · have d := digR l.reverse h2
    rw [List.reverse_reverse] at d
    rw [key_eq]
    exact d
theorem keyR_lt : ∀ r : List Nat, (∀ c ∈ r, c < 128) → keyR r < 128 ^ (r.length + 1)
  | [], _ => by decide
  | c :: r, h => by
    have ih := keyR_lt r fun d hd => h d (List.mem_cons_of_mem _ hd)
    have hc := h c List.mem_cons_self
    rw [List.length_cons, Nat.pow_succ]
    show keyR r * 128 + c < _
    generalize 128 ^ (r.length + 1) = p at ih
    omega
theorem key_small {l : List Nat} (hl : l.length ≤ 600) (h : ∀ c ∈ l, c < 128) : keyOf l < 128 ^ 700 := by
  rw [key_eq]
  refine Nat.lt_of_lt_of_le (keyR_lt _ fun c hc => h c (List.mem_reverse.mp hc)) (Nat.pow_le_pow_right (by decide) ?_)
  rw [List.length_reverse]
  omega
theorem key_inj {a b : List Nat} (ha : a.length ≤ 600) (hb : b.length ≤ 600) (h1 : ∀ c ∈ a, c < 128) (h2 : ∀ c ∈ b, c < 128) (e : keyOf a = keyOf b) : a = b := by
  have d1 := (dg_key ha h1).rev
  have d2 := (dg_key hb h2).rev
  rw [e] at d1
  exact (List.cons.inj (d1.symm.trans d2)).2
theorem hv_small (x : Nat) (h : x < 10) : L2.Hx.hv (48 + x) = x := by
  unfold L2.Hx.hv
  rw [if_pos (by omega)]
  omega
theorem fold_pad (a d : Nat) (h : d < 128) : (pad7 d).foldl (fun a c => a * 2 + L2.Hx.hv c) a = a * 128 + d := by
  unfold pad7
  simp only [List.foldl_cons, List.foldl_nil]
  rw [hv_small _ (by omega), hv_small _ (by omega), hv_small _ (by omega), hv_small _ (by omega), hv_small _ (by omega), hv_small _ (by omega), hv_small _ (by omega)]
  omega
theorem fold_pads : ∀ (l : List Nat) (a : Nat), (∀ c ∈ l, c < 128) → ((l.map pad7).flatten).foldl (fun a c => a * 2 + L2.Hx.hv c) a = l.foldl (fun a c => a * 128 + c) a
  | [], _, _ => rfl
  | c :: l, a, h => by
    rw [List.map_cons, List.flatten_cons, List.foldl_append, fold_pad a c (h c List.mem_cons_self), fold_pads l _ fun d hd => h d (List.mem_cons_of_mem _ hd)]
    rfl
theorem bin_key {l : List Nat} (h : ∀ c ∈ l, c < 128) : binNum ([49] ++ (l.map pad7).flatten) = keyOf l := by
  unfold binNum keyOf
  rw [List.foldl_append, ← fold_pads l 1 h]
  rfl
theorem bin_all (l : List Nat) : ∀ c ∈ [49] ++ (l.map pad7).flatten, IsBin c := fun c hc => by
  rcases List.mem_append.mp hc with z | z
  · rw [List.mem_singleton.mp z]
    exact .inr rfl
  · obtain ⟨x, hx, hc2⟩ := List.mem_flatten.mp z
    obtain ⟨d, _, rfl⟩ := List.mem_map.mp hx
    exact isbin_pad d c hc2
theorem code_lt {l : List Nat} (h : okText l = true) : ∀ c ∈ l, c < 128 := fun c hc => by
  have z := List.all_eq_true.mp h c hc
  unfold isCode at z
  rw [Bool.or_eq_true, Bool.and_eq_true, Bool.and_eq_true, decide_eq_true_eq, decide_eq_true_eq, decide_eq_true_eq] at z
  omega
theorem key_snoc (l : List Nat) (c : Nat) : keyOf (l ++ [c]) = keyOf l * 128 + c := by
  unfold keyOf
  rw [List.foldl_append]
  rfl
theorem sign_ne : ∀ i : Nat, i < 95 → ∀ j : Nat, j < 95 → i ≠ j → signs.getD i 0 ≠ signs.getD j 0 := by decide +kernel
theorem sign_inj {n m : Int} (h : n % 95 ≠ m % 95) : sign n ≠ sign m := by
  have h1 := Int.emod_nonneg n (show (95 : Int) ≠ 0 by decide)
  have h2 := Int.emod_lt_of_pos n (show (0 : Int) < 95 by decide)
  have h3 := Int.emod_nonneg m (show (95 : Int) ≠ 0 by decide)
  have h4 := Int.emod_lt_of_pos m (show (0 : Int) < 95 by decide)
  exact sign_ne _ (by omega) _ (by omega) (by omega)
section
variable {P : Program} {w : World} {K : PySem.W.Frag} {mg : Str → Option Value} {base : Heap}
def sp__law_cell (K : PySem.W.Frag) : Sp := sp3 (fun (a : Addr) (_ : List Int) (k : Nat) => [.ref a, .int (k : Int)]) (fun a ns _ H => SqL K H a (ns.map V.int)) (fun _ ns k => .int (L2.cellOf ns k))
theorem ok__law_cell {f : Addr} {fd : FuncData} (F : Fun K "_law_cell" "_law_cell" s__law_cell f fd) (T : Tx mg)  : FnOk P w K mg base CX0 1 f fd ["script", "k"] (sp__law_cell K) := by
  refine F.ok sc__law_cell (fun vs H Q E h => ?_) (fun cdv A outer s H vs Q E hr h => ?_)
  · obtain ⟨a, ns, k, rfl, _⟩ := h
    rfl
  · obtain ⟨a, ns, k, rfl, hS, q⟩ := h
    refine ⟨_, (pss_cons (ps_if (pt_cmpR op_lt (pv 1) (pe_callB Kn.cr_lenSeq (by rfl) T.b_len PySem.boot_len (pa_cons (pv 0) pa_nil)) (nomark _)) (pss_one (ps_ret (pe_callTy Kn.cr_int1 (by rfl) T.b_int (by decide +kernel) (pa_cons (pe_ix ix_list (pv 0) (pv 1) (fun _ _ => rfl)) pa_nil)))) pss_nil)
      (pss_one (ps_ret pe_int))), ?_⟩
    refine q_when (et_test (ev_op (ev_var rfl) (ev_len (ev_var rfl) hS) rv_lt)) (fun hb H1 e1 => ?_) (fun hb H1 e1 => ?_)
    · have hk : k < ns.length := by
        rw [List.length_map, decide_eq_true_eq] at hb
        omega
      exact s_ret (ev_cb (ea_cons (ev_op (ev_var rfl) (ev_var rfl) (rv_ixL (ex_l e1 hS) (atI_cell hk))) ea_nil) rc_int) fun H2 e2 => q H2 (e1.trans e2)
    · have hk : ¬ k < ns.length := by
        rw [List.length_map, decide_eq_false_iff_not] at hb
        omega
      refine s_ret ev_c fun H2 e2 => ?_
      have z : Q (.int (L2.cellOf ns k)) H2 := q H2 (e1.trans e2)
      rw [cell_out hk] at z
      exact z

theorem cutS_nat (l : List Nat) (a b : Nat) : cutS (S l) (some (a : Int)) (some (b : Int)) = S ((l.drop a).take (b - a)) := by
  unfold cutS
  rw [HT.sIx_nat, HT.sIx_nat]
  exact congrArg S (cut_nat l a b)
theorem ev_call {σ : L2.St} {H : Hp} {ta : TA} {sp : Sp} {E : XK} {vs : List V} {z : V} (h : EvA ta σ H vs) (hs : SpV sp vs H z) : Ev (tCall sp [] E ta) σ H z := fun H1 e Q q => h H1 e _ fun H2 e2 => by
  rw [List.append_nil]
  exact hs H2 (e.trans e2) Q (fun H3 e3 => q H3 (e2.trans e3)) E
theorem el_call {σ : L2.St} {H : Hp} {ta : TA} {sp : Sp} {E : XK} {vs xs : List V} (h : EvA ta σ H vs) (hs : ∀ H1, Ex H H1 → ∀ Q : VK, Rl H1 xs Q → ∀ E, sp vs H1 Q E) : EvL (tCall sp [] E ta) σ H xs := fun H1 e Q q => h H1 e _ fun H2 e2 => by
  rw [List.append_nil]
  exact hs H2 (e.trans e2) Q (fun p H3 np e3 hp => q p H3 (fresh_back e2 np) (e2.trans e3) hp) E
/-! ### the sign of a code -/
def sBef : List Nat := (Str.ofString " !\"#$").cps.toList
def sBeh : List Nat := (Str.ofString "&'()*+,-./0123456789:;<=>?@ABCDEFGHIJKLMNOPQRSTUVWXYZ[\\]^_`abcdefghijklmnopqrstuvwxyz{|}~").cps.toList
theorem at_bef : ∀ c : Nat, c < 37 → 32 ≤ c → atI sBef ((c : Int) - 32) = some c := by decide +kernel
theorem at_beh : ∀ c : Nat, c < 127 → 38 ≤ c → atI sBeh ((c : Int) - 37 - 1) = some c := by decide +kernel
theorem isCode_cases {c : Nat} (h : isCode (c : Int) = true) : c = 10 ∨ (32 ≤ c ∧ c < 37) ∨ (38 ≤ c ∧ c < 127) := by
  unfold isCode at h
  rw [Bool.or_eq_true, Bool.and_eq_true, Bool.and_eq_true, Bool.not_eq_true', decide_eq_true_eq, decide_eq_true_eq, decide_eq_true_eq, decide_eq_false_iff_not] at h
  omega
def sp__sign (_ : PySem.W.Frag) : Sp := sp1 (fun c : Nat => [.int (c : Int)]) (fun c _ => isCode (c : Int) = true) (fun c => .str (S [c]))
theorem ok__sign {f : Addr} {fd : FuncData} (F : Fun K "_sign" "_sign" s__sign f fd) (T : Tx mg)  : FnOk P w K mg base CX0 1 f fd ["code"] (sp__sign K) := by
  refine F.ok sc__sign (fun vs H Q E h => ?_) (fun cdv A outer s H vs Q E hr h => ?_)
  · obtain ⟨n, rfl, _⟩ := h
    rfl
  · obtain ⟨c, rfl, hc, q⟩ := h
    refine ⟨_, (pss_cons (ps_if (pt_cmpR op_eq (pv 0) (C8.pe_gc (by rfl) T.c_NEWLINE) (nomark _)) (pss_one (ps_ret pe_str)) pss_nil)
      (pss_cons (ps_if (pt_cmpR op_lt (pv 0) (C8.pe_gc (by rfl) T.c_PERCENT) (nomark _)) (pss_one (ps_ret (pe_ix ix_str (C8.pe_gc (by rfl) T.c_SIGNS_BEFORE) (pe_op op_sub (pv 0) (C8.pe_gc (by rfl) T.c_SPACE)) (fun _ _ => rfl)))) pss_nil)
      (pss_one (ps_ret (pe_ix ix_str (C8.pe_gc (by rfl) T.c_SIGNS_BEHIND) (pe_op op_sub (pe_op op_sub (pv 0) (C8.pe_gc (by rfl) T.c_PERCENT)) pe_int) (fun _ _ => rfl)))))), ?_⟩
    have h3 := isCode_cases hc
    refine q_when (b := decide ((c : Int) = 10)) (by walk_at "ev") (fun hb H1 e1 => ?_) (fun hb H1 e1 => ?_)
    · have e : c = 10 := by
        have := of_decide_eq_true hb
        omega
      subst e
      exact s_ret (ev_cS (l := [10]) rfl) fun H2 e2 => q H2 (e1.trans e2)
    · have hn := of_decide_eq_false hb
      refine q_when (b := decide ((c : Int) < 37)) (by walk_at "ev") (fun hb H2 e2 => ?_) (fun hb H2 e2 => ?_)
      · have hl := of_decide_eq_true hb
        exact s_ret (ev_idxS (ev_cS (l := sBef) rfl) (by walk_at "ev") (by decide +kernel) (at_bef c (by omega) (by omega))) fun H3 e3 => q H3 ((e1.trans e2).trans e3)
      · have hl := of_decide_eq_false hb
        exact s_ret (ev_idxS (ev_cS (l := sBeh) rfl) (by walk_at "ev") (by decide +kernel) (at_beh c (by omega) (by omega))) fun H3 e3 => q H3 ((e1.trans e2).trans e3)
/-! ### the codes of a key -/
def most : Nat := 128 ^ 700
def sp__codes (_ : PySem.W.Frag) : Sp := fun vs H Q _ => ∃ n : Int, vs = [.int n] ∧ n < (most : Int) ∧ (n < 1 → Rt H .non Q) ∧ (∀ (m t : Nat) (r : List Nat), n = (m : Int) → Dg m t r → t ≠ 1 → Rt H .non Q) ∧
  (∀ (m : Nat) (r : List Nat), n = (m : Int) → Dg m 1 r → Rl H (r.map fun d : Nat => V.int (d : Int)) Q)
theorem ok__codes {f : Addr} {fd : FuncData} (F : Fun K "_codes" "_codes" s__codes f fd) (T : Tx mg)  : FnOk P w K mg base CX0 1 f fd ["key"] (sp__codes K) := by
  refine F.ok sc__codes (fun vs H Q E h => ?_) (fun cdv A outer s H vs Q E hr h => ?_)
  · obtain ⟨n, rfl, _⟩ := h
    rfl
  · obtain ⟨n, rfl, hb, h1, h2, h3⟩ := h
    refine ⟨_, (pss_cons (ps_if (pt_cmpR op_lt (pv 0) pe_int (nomark _)) (pss_one (ps_ret pe_non)) pss_nil)
      (pss_cons (ps_set (i := 1) sc__codes.nd rfl (Or.inr rfl) (pe_joined1 (Kn.Bi.pe_fmtB (pv 0) (pe_joined1 pe_str))))
      (pss_cons (ps_if (pt_cmpR op_ne (pe_op op_mod (pe_callB Kn.cr_lenStr (by rfl) T.b_len PySem.boot_len (pa_cons (pv 1) pa_nil)) (C8.pe_gc (by rfl) T.c_DIGIT_BITS)) pe_int (nomark _)) (pss_one (ps_ret pe_non)) pss_nil)
      (pss_one (ps_ret (pe_lc (own := [("at", 2)]) rfl sc__codes.nd (pi_range3 rfl T.b_range (pa_cons pe_int (pa_cons (pe_callB Kn.cr_lenStr (by rfl) T.b_len PySem.boot_len (pa_cons (pv 1) pa_nil)) (pa_cons (C8.pe_gc (by rfl) T.c_DIGIT_BITS) pa_nil)))) (blkOk_by (own := [("at", 2)]) (N := N__codes) (sc := defScope s__codes) (by decide +kernel)) (fun _ _ _ _ _ => pg_name (i := 2) sc__codes.nd rfl (Or.inl rfl)) (fun _ _ _ _ _ => pts_nil) (fun _ _ _ _ _ => (pe_callTy Kn.Bi.cr_intBin (by rfl) T.b_int (by decide +kernel) (pa_cons (pe_slice sl_str (pv 1) (po_some (pv 2)) (po_some (pe_op op_add (pv 2) (C8.pe_gc (by rfl) T.c_DIGIT_BITS)))) (pa_cons pe_int pa_nil)))))))))), ?_⟩
    refine q_when (b := decide (n < 1)) (by walk_at "ev") (fun hb1 H1 e1 => ?_) (fun hb1 H1 e1 => ?_)
    · exact s_ret ev_c fun H2 e2 => h1 (of_decide_eq_true hb1) H2 (e1.trans e2)
    · have hn1 := of_decide_eq_false hb1
      obtain ⟨m, rfl⟩ := Int.eq_ofNat_of_zero_le (show 0 ≤ n by omega)
      obtain ⟨t, r, D⟩ := dg_of (n := m) (by omega) (by unfold most at hb; omega)
      have hr := D.rlen
      have hlen := D.len
      have ht := digB_top_len t D.top.2
      have rem := D.rem
      replace h2 := h2 m t r rfl D
      replace h3 := fun (e : t = 1) => h3 m r rfl (by subst e; exact D)
      refine q_asg (v := .str (S (digB m))) (ev_fmtB (ev_var rfl) (by omega)) fun H2 e2 => ?_
      refine q_when (b := !decide (((digB m).length : Int) % 7 = 1)) (et_test (ev_op (ev_op (ev_cb (ea_cons (ev_var rfl) ea_nil) (rc_lenS (by omega))) ev_c (rv_mod (by decide))) ev_c rv_neI)) (fun hb2 H3 e3 => ?_) (fun hb2 H3 e3 => ?_)
      · refine s_ret ev_c fun H4 e4 => h2 (fun z => ?_) H4 (((e1.trans e2).trans e3).trans e4)
        have := rem.mpr z
        rw [decide_eq_true (show ((digB m).length : Int) % 7 = 1 by omega)] at hb2
        cases hb2
      · have e : t = 1 := by
          refine rem.mp ?_
          by_cases z : ((digB m).length : Int) % 7 = 1
          · omega
          · rw [decide_eq_false z] at hb2
            cases hb2
        subst e
        have hl1 := D.len1
        refine s_retL (xs := r.map fun d : Nat => V.int (d : Int)) ?_ fun p H4 np e4 hp => h3 rfl p H4 (fresh_back ((e1.trans e2).trans e3) np) (((e1.trans e2).trans e3).trans e4) hp
        rw [← given_all (d := V.non)]
        refine el_lcR7 (c := r.length) (fun i => (r[i]?.map fun d : Nat => V.int (d : Int)).getD .non) (ea_cons ev_c (ea_cons (ev_is (ev_cb (ea_cons (ev_var rfl) ea_nil) (rc_lenS (by omega))) (by rw [hl1])) (ea_cons ev_c ea_nil))) (by omega) (fun _ => rfl) fun i H4 e4 hi => ?_
        have hget := List.getElem?_eq_getElem hi
        have hcut := D.cut hget
        have hd := D.all _ (List.getElem_mem hi)
        show Ev _ _ _ ((r[i]?.map fun d : Nat => V.int (d : Int)).getD .non)
        rw [hget]
        generalize r[i] = d at hcut hd
        refine ev_is (ev_intBin (l := pad7 d) (ea_cons (ev_is (ev_slS (ev_var rfl) (eo_some (ev_var rfl)) (eo_some (ev_op (ev_var rfl) ev_c rv_I0)) (by omega)) ?_) (ea_cons ev_c ea_nil)) (by unfold pad7; simp) (by rw [pad7_len]; decide) (isbin_pad d)) (by rw [bin_pad d hd]; rfl)
        rw [show (1 + ((i : Nat) : Int) * 7) = ((1 + 7 * i : Nat) : Int) by omega, show ((1 + 7 * i : Nat) : Int) + 7 = ((1 + 7 * i + 7 : Nat) : Int) by omega, cutS_nat, Nat.add_sub_cancel_left, hcut]
theorem codes_good {H : Hp} {m : Nat} {r : List Nat} (hb : (m : Int) < (most : Int)) (D : Dg m 1 r) : ∀ H1, Ex H H1 → ∀ Q : VK, Rl H1 (r.map fun d : Nat => V.int (d : Int)) Q → ∀ E, sp__codes K [.int (m : Int)] H1 Q E := fun H1 e Q q E => by
  refine ⟨(m : Int), rfl, hb, fun h => ?_, fun m2 t r2 e2 D2 h => ?_, fun m2 r2 e2 D2 => ?_⟩
  · exfalso
    have : m = 0 := by omega
    subst this
    have z := D.rev
    cases z
  · exfalso
    have : m = m2 := by omega
    subst this
    exact h (List.cons.inj (D.rev.symm.trans D2.rev)).1.symm
  · have : m = m2 := by omega
    subst this
    have e3 := (List.cons.inj (D.rev.symm.trans D2.rev)).2
    subst e3
    exact q
theorem ones_sum : ∀ r : List Nat, (r.map ((fun x : List Nat => x.length) ∘ fun c : Nat => [c])).sum = r.length
  | [] => rfl
  | x :: r => by
    rw [List.map_cons, List.sum_cons, ones_sum r, List.length_cons]
    show 1 + _ = _
    omega
theorem ones_flat : ∀ r : List Nat, (r.map fun c : Nat => [c]).flatten = r
  | [] => rfl
  | x :: r => by
    rw [List.map_cons, List.flatten_cons, ones_flat r]
    rfl

theorem ev_fmt7 {σ : L2.St} {H : Hp} {te : TE} {d : Nat} (h : Ev te σ H (.int (d : Int))) (hd : d < 128) : Ev (tFmt7 te) σ H (.str (S (pad7 d))) := fun H1 e Q q =>
  h H1 e _ fun H2 e2 => ⟨d, rfl, hd, q H2 e2⟩
theorem ev_intBinL {σ : L2.St} {H : Hp} {ta tb : TE} {l : List Nat} (h : EvA (tCons ta (tCons tb tNil)) σ H [.str (S l), .int 2]) (hne : l ≠ []) (hb : ∀ c ∈ l, IsBin c) : Ev (tCB rIntBinL (tCons ta (tCons tb tNil))) σ H (.int ((binNum l : Nat) : Int)) := fun H1 e Q q =>
  h H1 e _ fun H2 e2 => ⟨l, rfl, hne, hb, q H2 e2⟩
def sp_content_key (_ : PySem.W.Frag) : Sp := sp1 (fun l : List Nat => [.str (S l)]) (fun l _ => l.length ≤ 500 ∧ okText l = true) (fun l => .int ((keyOf l : Nat) : Int))
theorem ok_content_key {f : Addr} {fd : FuncData} (F : Fun K "content_key" "content_key" s_content_key f fd) (T : Tx mg) (hdig : PySem.W.nsIn K cStatics "sys.int_max_str_digits" = some none) : FnOk P w K mg base CX0 1 f fd ["text"] (sp_content_key K) := by
  refine F.ok sc_content_key (fun vs H Q E h => ?_) (fun cdv A outer s H vs Q E hr h => ?_)
  · obtain ⟨n, rfl, _⟩ := h
    rfl
  · obtain ⟨l, rfl, ⟨hl, hok⟩, q⟩ := h
    refine ⟨_, (pss_one (ps_ret (pe_callTy (Kn.Bi.cr_intBinL hdig) (by rfl) T.b_int (by decide +kernel) (pa_cons (pe_op Kn.op_addS pe_str (Kn.pe_joinN (pe_join pe_str (pe_lc (own := [("sign", 1)]) rfl sc_content_key.nd (pi_str (pv 0)) (blkOk_by (own := [("sign", 1)]) (N := N_content_key) (sc := defScope s_content_key) (by decide +kernel)) (fun _ _ _ _ _ => pg_name (i := 1) sc_content_key.nd rfl (Or.inl rfl)) (fun _ _ _ _ _ => pts_nil) (fun _ _ _ _ _ => (pe_joined1 (Kn.Bi.pe_fmt7 (pe_callB Kn.cr_ord (by rfl) T.b_ord (by decide +kernel) (pa_cons (pv 1) pa_nil)) (pe_joined1 pe_str)))))))) (pa_cons pe_int pa_nil))))), ?_⟩
    have hlt := code_lt hok
    have hfl := flat_len l
    refine s_ret (ev_is (ev_intBinL (l := [49] ++ (l.map pad7).flatten) (ea_cons (ev_op (ev_cS (l := [49]) rfl) (ev_is (ev_join (s := []) (ys := l.map pad7) (ev_cS (l := []) rfl) ?_ ?_) (by rw [Kn.join_nil])) (rv_addS (by rw [hfl]; show 1 + _ ≤ 100000; omega))) (ea_cons ev_c ea_nil)) (by simp) (bin_all l)) (by rw [bin_key hlt])) q
    · rw [List.map_map]
      exact el_lcS (ev_var rfl) (by omega) (fun _ => rfl) fun c hc H2 e2 => ev_fmt7 (ev_cb (ea_cons (ev_var rfl) ea_nil) rc_ord) (hlt c hc)
    · rw [← List.length_flatten, hfl, List.length_nil, Nat.mul_zero]
      omega
def sp_key_text (_ : PySem.W.Frag) : Sp := sp1 (fun l : List Nat => [.int ((keyOf l : Nat) : Int)]) (fun l _ => l.length ≤ 500 ∧ okText l = true) (fun l => .str (S l))
theorem ok_key_text {f : Addr} {fd : FuncData} (F : Fun K "key_text" "key_text" s_key_text f fd) (T : Tx mg) (C__codes : Kn.Cl P w K mg base 1 "_codes" (sp__codes K)) (C__is_code : Kn.Cl P w K mg base 1 "_is_code" (sp__is_code K)) (C__sign : Kn.Cl P w K mg base 1 "_sign" (sp__sign K)) : FnOk P w K mg base CX0 2 f fd ["key"] (sp_key_text K) := by
  refine F.ok sc_key_text (fun vs H Q E h => ?_) (fun cdv A outer s H vs Q E hr h => ?_)
  · obtain ⟨n, rfl, _⟩ := h
    rfl
  · obtain ⟨r, rfl, ⟨hl, hall⟩, q⟩ := h
    refine ⟨_, (pss_cons (ps_set (i := 1) sc_key_text.nd rfl (Or.inl rfl) (Kn.pe_cl C__codes hr (by decide) (by rfl) (pa_cons (pv 0) pa_nil)))
      (pss_cons (ps_if (PW.pt (pw_or (pt_cmpR op_isN1 (pv 1) pe_non (nomark _)) (pw_or1 (pt_not (pt_val (pe_callB (cr_all rfl) (by rfl) T.b_all (by decide +kernel) (pa_cons (pe_lc (own := [("code", 2)]) rfl sc_key_text.nd (pi_list (pv 1)) (blkOk_by (own := [("code", 2)]) (N := N_key_text) (sc := defScope s_key_text) (by decide +kernel)) (fun _ _ _ _ _ => pg_name (i := 2) sc_key_text.nd rfl (Or.inl rfl)) (fun _ _ _ _ _ => pts_nil) (fun _ _ _ _ _ => (Kn.pe_cl C__is_code hr (by decide) (by rfl) (pa_cons (pv 2) pa_nil)))) pa_nil))))))) (pss_one ps_never) pss_nil)
      (pss_one (ps_ret (Kn.pe_joinN (pe_join pe_str (pe_lc (own := [("code", 2)]) rfl sc_key_text.nd (pi_list (pv 1)) (blkOk_by (own := [("code", 2)]) (N := N_key_text) (sc := defScope s_key_text) (by decide +kernel)) (fun _ _ _ _ _ => pg_name (i := 2) sc_key_text.nd rfl (Or.inl rfl)) (fun _ _ _ _ _ => pts_nil) (fun _ _ _ _ _ => (Kn.pe_cl C__sign hr (by decide) (by rfl) (pa_cons (pv 2) pa_nil)))))))))), ?_⟩
    have D := dg_key (show r.length ≤ 600 by omega) (code_lt hall)
    have hb : ((keyOf r : Nat) : Int) < (most : Int) := by
      have := key_small (show r.length ≤ 600 by omega) (code_lt hall)
      unfold most
      omega
    refine q_asgL (el_call (ea_cons (ev_var rfl) ea_nil) (codes_good hb D)) fun p H1 np e1 hp => ?_
    refine q_when (b := false) (et_is (et_or (a := false) (b := false) (et_is (et_isN (ev_var rfl)) rfl) fun _ => et_not (a := true) (et_B (ev_is (ev_all (p := fun c : Nat => isCode (c : Int)) (xs := r) (el_lcM (g := fun c : Nat => V.int (c : Int)) (ev_var rfl) (sq_of hp) (by omega) (fun _ => rfl) fun c hc H2 e2 => ev_c1 (a := (c : Int)) (ea_cons (ev_var rfl) ea_nil) fun _ _ => trivial)) (congrArg V.bl hall)))) rfl) (fun z => nomatch z) fun _ H2 e2 => ?_
    refine s_ret (v := .str (S r)) (ev_is (ev_join (s := []) (ys := r.map fun c => [c]) (ev_cS (l := []) rfl) ?_ ?_) ?_) fun H3 e3 => q H3 ((e1.trans e2).trans e3)
    · rw [List.map_map]
      refine el_lcM (g := fun c : Nat => V.int (c : Int)) (ev_var rfl) (sq_of (e2 _ _ hp)) (by omega) (fun _ => rfl) fun c hc H3 e3 => ev_c1 (a := c) (ea_cons (ev_var rfl) ea_nil) fun _ _ => ?_
      exact List.all_eq_true.mp hall c hc
    · rw [List.map_map, List.length_map, List.length_nil, Nat.mul_zero, Nat.add_zero]
      have z := ones_sum r
      omega
    · rw [Kn.join_nil, ones_flat r]
def sp__law_text (K : PySem.W.Frag) : Sp := sp2 (fun (a : Addr) (_ : List Int) => [.ref a]) (fun a ns H => SqL K H a (ns.map V.int) ∧ ns.length ≤ 1000) (fun _ ns => .str (S (lawText ns)))
theorem ok__law_text {f : Addr} {fd : FuncData} (F : Fun K "_law_text" "_law_text" s__law_text f fd) (T : Tx mg)  : FnOk P w K mg base CX0 1 f fd ["numbers"] (sp__law_text K) := by
  refine F.ok sc__law_text (fun vs H Q E h => ?_) (fun cdv A outer s H vs Q E hr h => ?_)
  · obtain ⟨a, ns, rfl, _⟩ := h
    rfl
  · obtain ⟨a, ns, rfl, ⟨hS, hl⟩, q⟩ := h
    refine ⟨_, (pss_cons (ps_set (i := 1) sc__law_text.nd rfl (Or.inr rfl) pe_str)
      (pss_cons (ps_set (i := 1) sc__law_text.nd rfl (Or.inr rfl) (pe_op Kn.op_addS (pv 1) pe_str))
      (pss_one (ps_ret (Kn.pe_joinN (pe_join pe_str (pe_lc (own := [("number", 2)]) rfl sc__law_text.nd (pi_list (pv 0)) (blkOk_by (own := [("number", 2)]) (N := N__law_text) (sc := defScope s__law_text) (by decide +kernel)) (fun _ _ _ _ _ => pg_name (i := 2) sc__law_text.nd rfl (Or.inl rfl)) (fun _ _ _ _ _ => pts_nil) (fun _ _ _ _ _ => (pe_ix ix_str (pv 1) (pe_op op_mod (pe_callTy Kn.cr_int1 (by rfl) T.b_int (by decide +kernel) (pa_cons (pv 2) pa_nil)) pe_int) (fun _ _ => rfl)))))))))), ?_⟩
    refine q_asg (ev_cS (l := signs1) rfl) fun H1 e1 => ?_
    refine q_asg (ev_op (ev_var rfl) (ev_cS (l := signs2) rfl) (rv_addS (by decide +kernel))) fun H2 e2 => ?_
    have hS2 := ex_l (e1.trans e2) hS
    refine s_ret (v := .str (S (lawText ns))) (ev_is (ev_join (s := []) (ys := ns.map fun n => [sign n]) (ev_cS rfl) ?_ ?_) ?_) fun H3 e3 => q H3 ((e1.trans e2).trans e3)
    · rw [List.map_map]
      refine el_lcM (g := V.int) (ev_var rfl) hS2 (by omega) (fun _ => rfl) fun n hn H3 e3 => ?_
      exact ev_idxS (l := signs) (ev_var rfl) (by walk_at "ev") (by rw [signs_len]; decide) (sign_at n)
    · rw [List.map_map, List.length_map]
      have z : (List.map ((fun x => x.length) ∘ fun n => [sign n]) ns).sum = ns.length := by
        clear hS hS2 q hl
        induction ns with
        | nil => rfl
        | cons a r ih =>
          rw [List.map_cons, List.sum_cons, ih]
          show 1 + r.length = r.length + 1
          omega
      rw [z]
      show ns.length + ns.length * 0 ≤ 16777216
      omega
    · rw [Kn.join_nil]
      exact congrArg (fun l => V.str (S l)) (flat1 ns)

def sp__law_is_integer (_ : PySem.W.Frag) : Sp := sp1 (fun n : Int => [.int n]) (fun _ _ => True) (fun _ => .bl true)
theorem ok__law_is_integer {f : Addr} {fd : FuncData} (F : Fun K "_law_is_integer" "_law_is_integer" s__law_is_integer f fd) (T : Tx mg)  : FnOk P w K mg base CX0 1 f fd ["value"] (sp__law_is_integer K) := by
  refine F.ok sc__law_is_integer (fun vs H Q E h => ?_) (fun cdv A outer s H vs Q E hr h => ?_)
  · obtain ⟨n, rfl, _⟩ := h
    rfl
  · obtain ⟨n, rfl, -, q⟩ := h
    refine ⟨_, (pss_one (ps_ret (pe_and (pe_callB Kn.cr_isi (by rfl) T.b_isinstance (by decide +kernel) (pa_cons (pv 0) (pa_cons (pe_bltn (v := .ty "int") (by rfl) T.b_int (by decide +kernel) rfl) pa_nil))) (pe_one (pe_not (pe_callB Kn.cr_isi (by rfl) T.b_isinstance (by decide +kernel) (pa_cons (pv 0) (pa_cons (pe_bltn (v := .ty "bool") (by rfl) T.b_bool (by decide +kernel) rfl) pa_nil)))))))), ?_⟩
    exact s_ret (ev_is (ev_andV (a := true) (b := true) (ev_isi (T := "int") (ev_var rfl) (.base (.int n)) (by decide +kernel) fun _ _ => .base (.int n)) fun _ => ev_notV (a := false) (ev_isi (T := "int") (ev_var rfl) (.base (.int n)) (by decide +kernel) fun _ _ => .base (.int n))) rfl) q
def sp__law_key (_ : PySem.W.Frag) : Sp := sp1 (fun l : List Nat => [.str (S l)]) (fun l _ => l.length ≤ 500) (fun l => .int ((keyOf l : Nat) : Int))
theorem ok__law_key {f : Addr} {fd : FuncData} (F : Fun K "_law_key" "_law_key" s__law_key f fd) (T : Tx mg)  : FnOk P w K mg base CX0 1 f fd ["text"] (sp__law_key K) := by
  refine F.ok sc__law_key (fun vs H Q E h => ?_) (fun cdv A outer s H vs Q E hr h => ?_)
  · obtain ⟨n, rfl, _⟩ := h
    rfl
  · obtain ⟨l, rfl, hl, q⟩ := h
    refine ⟨_, (pss_cons (ps_set (i := 1) sc__law_key.nd rfl (Or.inl rfl) pe_int)
      (pss_cons (ps_for PassesOwn.never rfl (pi_str (pv 0)) (pg_name (i := 2) sc__law_key.nd rfl (Or.inl rfl)) (pss_one (ps_set (i := 1) sc__law_key.nd rfl (Or.inl rfl) (pe_op op_add (pe_op op_mul (pv 1) pe_int) (pe_callB Kn.cr_ord (by rfl) T.b_ord (by decide +kernel) (pa_cons (pv 2) pa_nil))))))
      (pss_one (ps_ret (pv 1))))), ?_⟩
    refine q_asg ev_c fun H1 e1 => ?_
    refine q_forS (l := l) (ev_var rfl) (fun i σ' H' => ∃ x : Option V, σ' = [some (.str (S l)), some (.int ((keyOf (l.take i) : Nat) : Int)), x] ∧ Ex H H') (fun H2 e2 => ⟨none, rfl, e1.trans e2⟩) ?_ ?_
    · rintro i c σ' H2 hc ⟨x, rfl, e2⟩
      refine s_asg (v := .int ((keyOf (l.take (i + 1)) : Nat) : Int)) (ev_is (ev_op (ev_op (ev_var rfl) ev_c (rv_mul (.inr ⟨by decide, by decide⟩))) (ev_cb (ea_cons (ev_var rfl) ea_nil) rc_ord) rv_I0) ?_) fun H3 e3 => ⟨_, rfl, e2.trans e3⟩
      rw [List.take_add_one, hc]
      show _ = V.int ((keyOf (l.take i ++ [c]) : Nat) : Int)
      rw [key_snoc, Int.natCast_add, Int.natCast_mul]
      rfl
    · rintro σ' H2 ⟨x, rfl, e2⟩
      rw [List.take_length]
      exact s_ret (ev_var rfl) fun H3 e3 => q H3 (e2.trans e3)
/-! ### the law -/
theorem lawText_ok2 (N : List Int) : okText (lawText N) = true := lawText_ok N
theorem el_catV {σ : L2.St} {H : Hp} {ta tb : TE} {xs ys : List V} {b : Addr} (ha : EvL ta σ H xs) (hb : ∀ H1, Ex H H1 → Ev tb σ H1 (.ref b)) (hB : H b = some (.lst ys)) (hl : xs.length + ys.length ≤ 100000) : EvL (tOp rCat ta tb) σ H (xs ++ ys) := fun H1 e Q q =>
  ha H1 e _ fun p H2 np e2 hp => hb H2 (e.trans e2) H2 (Ex.refl H2) _ fun H3 e3 => ⟨p, b, xs, ys, rfl, rfl, e3 _ _ hp, e3 _ _ (e2 _ _ (e _ _ hB)), sz_of hl, fun l hl => q l _ (fresh_back (e2.trans e3) hl) ((e2.trans e3).trans (Ex.new hl)) upd_same⟩
theorem el_catW {σ : L2.St} {H : Hp} {ta tb : TE} {xs ys : List V} {a : Addr} (ha : Ev ta σ H (.ref a)) (hA : H a = some (.lst xs)) (hb : EvL tb σ H ys) (hl : xs.length + ys.length ≤ 100000) : EvL (tOp rCat ta tb) σ H (xs ++ ys) := fun H1 e Q q =>
  ha H1 e _ fun H2 e2 => hb H2 (e.trans e2) _ fun r H3 nr e3 hr => ⟨a, r, xs, ys, rfl, rfl, e3 _ _ (e2 _ _ (e _ _ hA)), hr, sz_of hl, fun l hl => q l _ (fresh_back (e2.trans e3) hl) ((e2.trans e3).trans (Ex.new hl)) upd_same⟩
theorem text_ne_set {N : List Int} {j : Nat} (hj : j < N.length) {d : Int} (h0 : 0 ≤ d) (h1 : d < 94) : lawText N ≠ lawText (N.set j (N[j] + 1 + d)) := fun z => by
  have e := congrArg (fun l : List Nat => l[j]?) z
  unfold lawText at e
  rw [List.getElem?_map, List.getElem?_map, List.getElem?_eq_getElem hj, List.getElem?_set_self hj] at e
  have e2 : sign N[j] = sign (N[j] + 1 + d) := Option.some.inj e
  exact sign_inj (by omega) e2
theorem text_ne_more (N : List Int) (x : Int) : lawText N ≠ lawText (N ++ [x]) := fun z => by
  have e := congrArg List.length z
  rw [lawText_len, lawText_len, List.length_append] at e
  simp at e
def nums0 (ns : List Int) : List Int := ((ns.drop 1).take (63 - 1)).map fun c => ((c.natAbs : Nat) : Int) / 3
theorem nums0_len (ns : List Int) : (nums0 ns).length ≤ 62 := by
  unfold nums0
  rw [List.length_map, List.length_take]
  omega
def sp_law (K : PySem.W.Frag) : Sp := sp2 (fun (a : Addr) (_ : List Int) => [.ref a]) (fun a ns H => SqL K H a (ns.map V.int) ∧ ns.length ≤ 63) (fun _ _ => .bl true)
theorem ok_law {f : Addr} {fd : FuncData} (F : Fun K "law" "law" s_law f fd) (T : Tx mg) (C__law_cell : Kn.Cl P w K mg base 1 "_law_cell" (sp__law_cell K)) (C_content_key : Kn.Cl P w K mg base 1 "content_key" (sp_content_key K)) (C_key_text : Kn.Cl P w K mg base 2 "key_text" (sp_key_text K)) (C__law_text : Kn.Cl P w K mg base 1 "_law_text" (sp__law_text K)) (C__law_is_integer : Kn.Cl P w K mg base 1 "_law_is_integer" (sp__law_is_integer K)) (C__law_key : Kn.Cl P w K mg base 1 "_law_key" (sp__law_key K)) : FnOk P w K mg base CX0 3 f fd ["script"] (sp_law K) := by
  refine F.ok sc_law (fun vs H Q E h => ?_) (fun cdv A outer s H vs Q E hr h => ?_)
  · obtain ⟨a, ns, rfl, _⟩ := h
    rfl
  · obtain ⟨a, ns, rfl, ⟨hS, hl⟩, q⟩ := h
    refine ⟨_, (pss_cons (ps_setLc (i := 1) (own := [("cell", 8)]) rfl sc_law.nd rfl rfl (sw_true rfl rfl rfl (by decide +kernel)) (pi_list (pe_slice sl_list (pv 0) (po_some pe_int) (po_some pe_int))) (blkOk_by (own := [("cell", 8)]) (N := N_law) (sc := defScope s_law) (by decide +kernel)) (fun _ _ _ _ _ => pg_name (i := 8) sc_law.nd rfl (Or.inl rfl)) (fun _ _ _ _ _ => pts_nil) (fun _ _ _ _ _ => (pe_op op_fdiv (pe_callB Kn.cr_abs (by rfl) T.b_abs (by decide +kernel) (pa_cons (pe_callTy Kn.cr_int1 (by rfl) T.b_int (by decide +kernel) (pa_cons (pv 8) pa_nil)) pa_nil)) pe_int)))
      (pss_cons (ps_set (i := 2) sc_law.nd rfl (Or.inr rfl) (Kn.pe_cl C__law_cell hr (by decide) (by rfl) (pa_cons (pv 0) (pa_cons pe_int pa_nil))))
      (pss_cons (ps_if (pt_cmpR op_eq (pe_op op_mod (pv 2) pe_int) pe_int (nomark _)) (pss_one (ps_set (i := 1) sc_law.nd rfl (Or.inl rfl) (pe_op op_cat (pe_lc (own := [("k", 9)]) rfl sc_law.nd (pi_range1 rfl T.b_range (pa_cons pe_int pa_nil)) (blkOk_by (own := [("k", 9)]) (N := N_law) (sc := defScope s_law) (by decide +kernel)) (fun _ _ _ _ _ => pg_name (i := 9) sc_law.nd rfl (Or.inl rfl)) (fun _ _ _ _ _ => pts_nil) (fun _ _ _ _ _ => (pe_op op_add (pe_op op_mul (pv 9) (pv 9)) (pe_op op_fdiv (pv 2) pe_int)))) (pv 1)))) pss_nil)
      (pss_cons (ps_set (i := 3) sc_law.nd rfl (Or.inl rfl) (pe_op op_cat (pv 1) (pe_lst (pa_cons (pe_op op_fdiv (pv 2) pe_int) pa_nil))))
      (pss_cons (ps_if (PW.pt (pw_and (pt_cmpR op_gt (pe_callB Kn.cr_lenSeq (by rfl) T.b_len PySem.boot_len (pa_cons (pv 1) pa_nil)) pe_int (nomark _)) (pw_and1 (pt_cmpR op_eq (pe_op op_mod (pv 2) pe_int) pe_int (nomark _))))) (pss_cons (ps_set (i := 3) sc_law.nd rfl (Or.inl rfl) (pe_callTy call_list_of (by rfl) T.b_list (by decide +kernel) (pa_cons (pv 1) pa_nil)))
      (pss_cons (ps_set (i := 4) sc_law.nd rfl (Or.inl rfl) (pe_op op_mod (pe_op op_fdiv (pe_callB Kn.cr_abs (by rfl) T.b_abs (by decide +kernel) (pa_cons (pv 2) pa_nil)) pe_int) (pe_callB Kn.cr_lenSeq (by rfl) T.b_len PySem.boot_len (pa_cons (pv 1) pa_nil))))
      (pss_one (ps_asg (pe_op op_add (pe_op op_add (pe_ix ix_list (pv 3) (pv 4) (fun _ _ => rfl)) pe_int) (pe_op op_mod (pe_op op_fdiv (pe_callB Kn.cr_abs (by rfl) T.b_abs (by decide +kernel) (pa_cons (pv 2) pa_nil)) pe_int) pe_int)) (pg_sub (pv 3) (pv 4) set_list))))) pss_nil)
      (pss_cons (ps_for PassesOwn.never rfl (pi_list (pe_lst (pa_cons (Kn.pe_cl C__law_text hr (by decide) (by rfl) (pa_cons (pv 1) pa_nil)) (pa_cons (Kn.pe_cl C__law_text hr (by decide) (by rfl) (pa_cons (pv 3) pa_nil)) pa_nil)))) (pg_name (i := 5) sc_law.nd rfl (Or.inl rfl)) (pss_cons (ps_set (i := 6) sc_law.nd rfl (Or.inl rfl) (Kn.pe_cl C_content_key hr (by decide) (by rfl) (pa_cons (pv 5) pa_nil)))
      (pss_cons (ps_if (PW.pt (pw_or (pt_not (pt_val (Kn.pe_cl C__law_is_integer hr (by decide) (by rfl) (pa_cons (pv 6) pa_nil)))) (pw_or1 (pt_cmpR op_ne (pv 6) (Kn.pe_cl C__law_key hr (by decide) (by rfl) (pa_cons (pv 5) pa_nil)) (nomark _))))) (pss_one (ps_ret pe_bl)) pss_nil)
      (pss_cons (ps_set (i := 7) sc_law.nd rfl (Or.inl rfl) (Kn.pe_cl C_key_text hr (by decide) (by rfl) (pa_cons (pv 6) pa_nil)))
      (pss_one (ps_if (PW.pt (pw_or (pt_not (pt_val (pe_callB Kn.cr_isi (by rfl) T.b_isinstance (by decide +kernel) (pa_cons (pv 7) (pa_cons (pe_bltn (v := .ty "str") (by rfl) T.b_str (by decide +kernel) rfl) pa_nil))))) (pw_or1 (pt_cmpR op_ne (pv 7) (pv 5) (nomark _))))) (pss_one (ps_ret pe_bl)) pss_nil))))))
      (pss_one (ps_ret (pe_cmpR op_ne (Kn.pe_cl C_content_key hr (by decide) (by rfl) (pa_cons (Kn.pe_cl C__law_text hr (by decide) (by rfl) (pa_cons (pv 1) pa_nil)) pa_nil)) (Kn.pe_cl C_content_key hr (by decide) (by rfl) (pa_cons (Kn.pe_cl C__law_text hr (by decide) (by rfl) (pa_cons (pv 3) pa_nil)) pa_nil)) (nomark _)))))))))), ?_⟩
    have hn0 := nums0_len ns
    refine q_asgL (xs := (nums0 ns).map V.int) ?_ fun p0 H1 np0 e1 hp0 => ?_
    · unfold nums0
      rw [List.map_map]
      refine el_lcN (g := V.int) (el_slN (ev_var rfl) (by walk_at "ev") (by walk_at "ev") hS 1 63 rfl rfl) (by rw [List.length_take]; omega) (fun _ => rfl) fun n hn H2 e2 => ?_
      walk_at "ev"
    refine q_asg (v := .int (cellOf ns 0)) (ev_c3 (a := a) (b := ns) (c := 0) (by walk_at "ev") fun H2 e2 => ex_l (e1.trans e2) hS) fun H2 e2 => ?_
    generalize cellOf ns 0 = f0
    replace hp0 := e2 _ _ hp0
    replace q : ∀ H3, Ex H2 H3 → Q (.bl true) H3 := fun H3 e => q H3 ((e1.trans e2).trans e)
    generalize nums0 ns = N0 at hn0 hp0
    -- more numbers
    refine q_ifM (b := decide (f0 % 4 = 1)) (fun σ' H' => ∃ (N : List Int) (pn : Addr), σ' = [some (.ref a), some (.ref pn), some (.int f0), none, none, none, none, none, none, none] ∧ Ex H2 H' ∧ H' pn = some (.lst (N.map V.int)) ∧ N.length ≤ 412) (by walk_at "ev") (fun _ H3 e3 M hM => ?_) (fun _ H3 e3 M hM => s_next (hM _ _ ⟨N0, p0, rfl, e3, e3 _ _ hp0, by omega⟩)) ?_
    · refine s_asgL (xs := ((List.range (350 : Int).toNat).map fun k : Nat => V.int ((k : Int) * (k : Int) + f0 / 4)) ++ N0.map V.int) (el_catV (el_lcR (n := 350) (f := fun k : Nat => V.int ((k : Int) * (k : Int) + f0 / 4)) (ea_cons ev_c ea_nil) ⟨by decide, by decide⟩ (fun _ => rfl) fun k H4 e4 hk => ?_) (fun H4 e4 => ev_var rfl) (e3 _ _ hp0) (by rw [List.length_map, List.length_map, List.length_range]; show 350 + _ ≤ 100000; omega)) fun pn H4 npn e4 hpn => hM _ _ ⟨((List.range 350).map fun k : Nat => (k : Int) * (k : Int) + f0 / 4) ++ N0, pn, rfl, e3.trans e4, ?_, ?_⟩
      · exact ev_op (ev_op (ev_var rfl) (ev_var rfl) (rv_mul (.inl ⟨by omega, by omega⟩))) (ev_op (ev_var rfl) ev_c (rv_fdiv ⟨by decide, by decide⟩)) rv_I0
      · rw [hpn, List.map_append, List.map_map]
        rfl
      · rw [List.length_append, List.length_map, List.length_range]
        omega
    rintro σ3 H3 ⟨N, pn, rfl, e3, hpn, hN⟩
    clear hn0 hp0 N0
    replace q := fun H4 e => q H4 (e3.trans e)
    -- the other numbers
    refine q_asgL (xs := N.map V.int ++ [.int (f0 / 8)]) (el_catW (ev_var rfl) hpn (el_lst (ea_cons (ev_op (ev_var rfl) ev_c (rv_fdiv ⟨by decide, by decide⟩)) ea_nil) (by show 1 ≤ 100000; decide)) (by rw [List.length_map]; show _ + 1 ≤ 100000; omega)) fun po H4 npo e4 hpo => ?_
    replace hpn := e4 _ _ hpn
    replace q := fun H5 e => q H5 (e4.trans e)
    refine q_ifM (b := decide (0 < (N.length : Int)) && decide (f0 % 2 = 1)) (fun σ' H' => ∃ (O : List Int) (po : Addr) (x4 : Option V), σ' = [some (.ref a), some (.ref pn), some (.int f0), some (.ref po), x4, none, none, none, none, none] ∧ Ex H4 H' ∧ H' po = some (.lst (O.map V.int)) ∧ O.length ≤ 413 ∧ lawText N ≠ lawText O) (et_and (et_test (ev_op (ev_is (ev_len (ev_var rfl) (sq_of hpn)) (by rw [List.length_map])) ev_c rv_gt)) fun _ => by walk_at "ev") (fun hb H5 e5 M hM => ?_) (fun _ H5 e5 M hM => s_next (hM _ _ ⟨N ++ [f0 / 8], po, none, rfl, e5, by rw [e5 _ _ hpo, List.map_append]; rfl, by rw [List.length_append]; show _ + 1 ≤ 413; omega, text_ne_more N _⟩)) ?_
    · rw [Bool.and_eq_true, decide_eq_true_eq] at hb
      have hpos : 0 < N.length := by omega
      have hj : f0.natAbs / 8 % N.length < N.length := Nat.mod_lt _ hpos
      refine q_asgL (xs := N.map V.int) (el_list (ev_var rfl) (sq_of (e5 _ _ hpn))) fun pq H6 npq e6 hpq => ?_
      refine q_asg (v := .int ((f0.natAbs / 8 % N.length : Nat) : Int)) (ev_is (ev_op (ev_op (ev_cb (ea_cons (ev_var rfl) ea_nil) rc_abs) ev_c (rv_fdiv ⟨by decide, by decide⟩)) (ev_is (ev_len (ev_var rfl) (sq_of (e6 _ _ (e5 _ _ hpn)))) (by rw [List.length_map])) (rv_mod (by omega))) (by rw [Int.natCast_emod, Int.natCast_ediv]; rfl)) fun H7 e7 => ?_
      have hget : (N.map V.int)[f0.natAbs / 8 % N.length]? = some (.int (N[f0.natAbs / 8 % N.length])) := by
        rw [List.getElem?_map, List.getElem?_eq_getElem hj]
        rfl
      have hne := text_ne_set hj (d := ((f0.natAbs : Nat) : Int) / 16 % 94) (Int.emod_nonneg _ (by decide)) (Int.emod_lt_of_pos _ (by decide))
      generalize f0.natAbs / 8 % N.length = j at hj hget hne
      refine s_setL (j := j) (v := .int (N[j] + 1 + ((f0.natAbs : Nat) : Int) / 16 % 94)) (e7 _ _ hpq) (ev_op (ev_op (ev_op (ev_var rfl) (ev_var rfl) (rv_ixL (sq_of (e7 _ _ hpq)) (atI_nat hget))) ev_c rv_I0) (ev_op (ev_op (ev_cb (ea_cons (ev_var rfl) ea_nil) rc_abs) ev_c (rv_fdiv ⟨by decide, by decide⟩)) ev_c (rv_mod (by decide))) rv_I0) (ev_var rfl) (ev_var rfl) (by rw [List.length_map]; exact hj) fun H8 e8 => ?_
      refine hM _ _ ⟨N.set j (N[j] + 1 + ((f0.natAbs : Nat) : Int) / 16 % 94), pq, _, rfl, e5.trans (Ex.mut ((e6.trans e7).trans e8) npq), ?_, by rw [List.length_set]; omega, hne⟩
      rw [upd_same, List.map_set]
    clear hpo po npo
    rintro σ5 H5 ⟨O, po, x4, rfl, e5, hpo, hO, hne⟩
    replace hpn := e5 _ _ hpn
    replace q := fun H6 e => q H6 (e5.trans e)
    have hNl := lawText_len N
    have hOl := lawText_len O
    have hNk := lawText_ok2 N
    have hOk := lawText_ok2 O
    have tN : ∀ H6, Ex H5 H6 → SqL K H6 pn (N.map V.int) ∧ N.length ≤ 1000 := fun H6 e => ⟨sq_of (e _ _ hpn), by omega⟩
    have tO : ∀ H6, Ex H5 H6 → SqL K H6 po (O.map V.int) ∧ O.length ≤ 1000 := fun H6 e => ⟨sq_of (e _ _ hpo), by omega⟩
    -- both texts
    refine q_forNLn (xs := [.str (S (lawText N)), .str (S (lawText O))]) (el_lst (ea_cons (ev_c2 (a := pn) (b := N) (ea_cons (ev_var rfl) ea_nil) tN) (ea_cons (ev_c2 (a := po) (b := O) (ea_cons (ev_var rfl) ea_nil) tO) ea_nil)) (by simp)) (fun p i σ' H' => ∃ (x5 x6 x7 : Option V), σ' = [some (.ref a), some (.ref pn), some (.int f0), some (.ref po), x4, x5, x6, x7, none, none] ∧ Ex H5 H' ∧ H' p = some (.lst [.str (S (lawText N)), .str (S (lawText O))])) (fun p H6 np e6 hp => ⟨none, none, none, rfl, e6, hp⟩) (fun p i σ' H' _ ⟨_, _, _, _, _, h⟩ => sq_of h) ?_ ?_
    · rintro p i xv σ' H6 hx ⟨x5, x6, x7, rfl, e6, hp⟩
      obtain ⟨t, rfl, ht, hk⟩ : ∃ t : List Nat, xv = .str (S t) ∧ t.length ≤ 500 ∧ okText t = true := by
        rcases List.mem_cons.mp (List.mem_of_getElem? hx) with z | z
        · exact ⟨_, z, by omega, hNk⟩
        · exact ⟨_, List.mem_singleton.mp z, by omega, hOk⟩
      refine q_asg (ev_c1 (a := t) (ea_cons (ev_var rfl) ea_nil) fun _ _ => ⟨ht, hk⟩) fun H7 e7 => ?_
      refine q_when (b := false) (et_is (et_or (a := false) (b := false) (et_not (a := true) (et_B (ev_c1 (a := ((keyOf t : Nat) : Int)) (ea_cons (ev_var rfl) ea_nil) fun _ _ => trivial))) fun _ => et_is (et_test (ev_op (ev_var rfl) (ev_c1 (a := t) (ea_cons (ev_var rfl) ea_nil) fun _ _ => ht) rv_neI)) (by simp)) rfl) (fun z => nomatch z) fun _ H8 e8 => ?_
      refine q_asg (ev_c1 (a := t) (ea_cons (ev_var rfl) ea_nil) fun _ _ => ⟨ht, hk⟩) fun H9 e9 => ?_
      refine s_when (b := false) (et_is (et_or (a := false) (b := false) (et_not (a := true) (et_B (ev_isiS (ev_var rfl)))) fun _ => et_is (et_test (ev_op (ev_var rfl) (ev_var rfl) rv_neS)) (by simp)) rfl) (fun z => nomatch z) fun _ H10 e10 => ?_
      exact ⟨_, _, _, rfl, (((e6.trans e7).trans e8).trans e9).trans e10, e10 _ _ (e9 _ _ (e8 _ _ (e7 _ _ hp)))⟩
    rintro p σ6 H6 ⟨x5, x6, x7, rfl, e6, -⟩
    have hkn : ¬ ((keyOf (lawText N) : Nat) : Int) = ((keyOf (lawText O) : Nat) : Int) := fun z => hne (key_inj (by omega) (by omega) (code_lt hNk) (code_lt hOk) (by omega))
    refine s_ret (v := .bl true) (ev_is (ev_op (ev_c1 (a := lawText N) (ea_cons (ev_c2 (a := pn) (b := N) (ea_cons (ev_var rfl) ea_nil) fun H7 e7 => tN H7 (e6.trans e7)) ea_nil) fun _ _ => ⟨by omega, hNk⟩) (ev_c1 (a := lawText O) (ea_cons (ev_c2 (a := po) (b := O) (ea_cons (ev_var rfl) ea_nil) fun H7 e7 => tO H7 (e6.trans e7)) ea_nil) fun _ _ => ⟨by omega, hOk⟩) rv_neI) (by rw [decide_eq_false hkn]; rfl)) fun H7 e7 => q H7 (e6.trans e7)
end
theorem all_mk {l : PySem.W.OpenLaw} {w : World} {K : PySem.W.Frag} {h : Heap} {mg : Str → Option Value} {fa : Addr} (X : K.In h) (G : h.Ns mainGlobals mg) (hfa : mg "law" = some (.ref fa))
    {f0 f1 f2 f3 f4 f5 f6 f7 f8 f9 : Addr} {od0 od1 od2 od3 od4 od5 od6 od7 od8 od9 an0 an1 an2 an3 an4 an5 an6 an7 an8 an9 : Option Addr} {sl0 sl1 sl2 sl3 sl4 sl5 sl6 sl7 sl8 sl9 : Array (Option Value)} {oc0 oc1 oc2 oc3 oc4 oc5 oc6 oc7 oc8 oc9 kV0 kV1 kV2 kV3 kV4 kV5 kV6 kV7 kV8 kV9 dc0 dc1 dc2 dc3 dc4 dc5 dc6 dc7 dc8 dc9 pm0 pm1 pm2 pm3 pm4 pm5 pm6 pm7 pm8 pm9 cd0 cd1 cd2 cd3 cd4 cd5 cd6 cd7 cd8 cd9 ct0 ct1 ct2 ct3 ct4 ct5 ct6 ct7 ct8 ct9 : Value}
    {tk_NEWLINE tk_SPACE tk_PERCENT tk_TILDE tk_SIGNS_BEFORE tk_SIGNS_BEHIND tk_DIGIT_BITS : Tok}
    (a0 : PySem.W.nsIn K mainGlobals "_is_code" = some (some (.ref f0)))
    (l0 : K.lookup f0 = some ⟨oc0, od0, .func (PySem.W.fnOf "_is_code" "_is_code" (defArgs s__is_code) (defBody s__is_code) (defScope s__is_code) .none kV0 dc0 pm0 an0 cd0 ct0), sl0⟩)
    (c0 : PySem.W.codeIn K cd0 "_is_code" = true)
    (k0 : PySem.W.keepIn K (.ref f0) = true)
    (a1 : PySem.W.nsIn K mainGlobals "_codes" = some (some (.ref f1)))
    (l1 : K.lookup f1 = some ⟨oc1, od1, .func (PySem.W.fnOf "_codes" "_codes" (defArgs s__codes) (defBody s__codes) (defScope s__codes) .none kV1 dc1 pm1 an1 cd1 ct1), sl1⟩)
    (c1 : PySem.W.codeIn K cd1 "_codes" = true)
    (k1 : PySem.W.keepIn K (.ref f1) = true)
    (a2 : PySem.W.nsIn K mainGlobals "_sign" = some (some (.ref f2)))
    (l2 : K.lookup f2 = some ⟨oc2, od2, .func (PySem.W.fnOf "_sign" "_sign" (defArgs s__sign) (defBody s__sign) (defScope s__sign) .none kV2 dc2 pm2 an2 cd2 ct2), sl2⟩)
    (c2 : PySem.W.codeIn K cd2 "_sign" = true)
    (k2 : PySem.W.keepIn K (.ref f2) = true)
    (a3 : PySem.W.nsIn K mainGlobals "content_key" = some (some (.ref f3)))
    (l3 : K.lookup f3 = some ⟨oc3, od3, .func (PySem.W.fnOf "content_key" "content_key" (defArgs s_content_key) (defBody s_content_key) (defScope s_content_key) .none kV3 dc3 pm3 an3 cd3 ct3), sl3⟩)
    (c3 : PySem.W.codeIn K cd3 "content_key" = true)
    (k3 : PySem.W.keepIn K (.ref f3) = true)
    (a4 : PySem.W.nsIn K mainGlobals "key_text" = some (some (.ref f4)))
    (l4 : K.lookup f4 = some ⟨oc4, od4, .func (PySem.W.fnOf "key_text" "key_text" (defArgs s_key_text) (defBody s_key_text) (defScope s_key_text) .none kV4 dc4 pm4 an4 cd4 ct4), sl4⟩)
    (c4 : PySem.W.codeIn K cd4 "key_text" = true)
    (k4 : PySem.W.keepIn K (.ref f4) = true)
    (a5 : PySem.W.nsIn K mainGlobals "_law_cell" = some (some (.ref f5)))
    (l5 : K.lookup f5 = some ⟨oc5, od5, .func (PySem.W.fnOf "_law_cell" "_law_cell" (defArgs s__law_cell) (defBody s__law_cell) (defScope s__law_cell) .none kV5 dc5 pm5 an5 cd5 ct5), sl5⟩)
    (c5 : PySem.W.codeIn K cd5 "_law_cell" = true)
    (k5 : PySem.W.keepIn K (.ref f5) = true)
    (a6 : PySem.W.nsIn K mainGlobals "_law_text" = some (some (.ref f6)))
    (l6 : K.lookup f6 = some ⟨oc6, od6, .func (PySem.W.fnOf "_law_text" "_law_text" (defArgs s__law_text) (defBody s__law_text) (defScope s__law_text) .none kV6 dc6 pm6 an6 cd6 ct6), sl6⟩)
    (c6 : PySem.W.codeIn K cd6 "_law_text" = true)
    (k6 : PySem.W.keepIn K (.ref f6) = true)
    (a7 : PySem.W.nsIn K mainGlobals "_law_is_integer" = some (some (.ref f7)))
    (l7 : K.lookup f7 = some ⟨oc7, od7, .func (PySem.W.fnOf "_law_is_integer" "_law_is_integer" (defArgs s__law_is_integer) (defBody s__law_is_integer) (defScope s__law_is_integer) .none kV7 dc7 pm7 an7 cd7 ct7), sl7⟩)
    (c7 : PySem.W.codeIn K cd7 "_law_is_integer" = true)
    (k7 : PySem.W.keepIn K (.ref f7) = true)
    (a8 : PySem.W.nsIn K mainGlobals "_law_key" = some (some (.ref f8)))
    (l8 : K.lookup f8 = some ⟨oc8, od8, .func (PySem.W.fnOf "_law_key" "_law_key" (defArgs s__law_key) (defBody s__law_key) (defScope s__law_key) .none kV8 dc8 pm8 an8 cd8 ct8), sl8⟩)
    (c8 : PySem.W.codeIn K cd8 "_law_key" = true)
    (k8 : PySem.W.keepIn K (.ref f8) = true)
    (a9 : PySem.W.nsIn K mainGlobals "law" = some (some (.ref f9)))
    (l9 : K.lookup f9 = some ⟨oc9, od9, .func (PySem.W.fnOf "law" "law" (defArgs s_law) (defBody s_law) (defScope s_law) .none kV9 dc9 pm9 an9 cd9 ct9), sl9⟩)
    (c9 : PySem.W.codeIn K cd9 "law" = true)
    (k9 : PySem.W.keepIn K (.ref f9) = true)
    (hdig : PySem.W.nsIn K cStatics "sys.int_max_str_digits" = some none)
    (zb_abs : PySem.W.nsIn K mainGlobals "abs" = some none)
    (zb_all : PySem.W.nsIn K mainGlobals "all" = some none)
    (zb_bool : PySem.W.nsIn K mainGlobals "bool" = some none)
    (zb_int : PySem.W.nsIn K mainGlobals "int" = some none)
    (zb_isinstance : PySem.W.nsIn K mainGlobals "isinstance" = some none)
    (zb_len : PySem.W.nsIn K mainGlobals "len" = some none)
    (zb_list : PySem.W.nsIn K mainGlobals "list" = some none)
    (zb_ord : PySem.W.nsIn K mainGlobals "ord" = some none)
    (zb_range : PySem.W.nsIn K mainGlobals "range" = some none)
    (zb_str : PySem.W.nsIn K mainGlobals "str" = some none)
    (zc_NEWLINE : PySem.W.nsIn K mainGlobals "NEWLINE" = some (some (.int 10 tk_NEWLINE)))
    (zc_SPACE : PySem.W.nsIn K mainGlobals "SPACE" = some (some (.int 32 tk_SPACE)))
    (zc_PERCENT : PySem.W.nsIn K mainGlobals "PERCENT" = some (some (.int 37 tk_PERCENT)))
    (zc_TILDE : PySem.W.nsIn K mainGlobals "TILDE" = some (some (.int 126 tk_TILDE)))
    (zc_SIGNS_BEFORE : PySem.W.nsIn K mainGlobals "SIGNS_BEFORE" = some (some (.str (Str.ofString " !\"#$") tk_SIGNS_BEFORE)))
    (zc_SIGNS_BEHIND : PySem.W.nsIn K mainGlobals "SIGNS_BEHIND" = some (some (.str (Str.ofString "&'()*+,-./0123456789:;<=>?@ABCDEFGHIJKLMNOPQRSTUVWXYZ[\\]^_`abcdefghijklmnopqrstuvwxyz{|}~") tk_SIGNS_BEHIND)))
    (zc_DIGIT_BITS : PySem.W.nsIn K mainGlobals "DIGIT_BITS" = some (some (.int 7 tk_DIGIT_BITS)))
    : ∃ fd : FuncData, (∀ (s : Shared) (v : Value), BindsTo s fd ⟨[v], []⟩ [("script", v)]) ∧ ∀ base : Heap, K.In base → base.Ns mainGlobals mg → FnOk l.prog w K mg base CX0 3 fa fd ["script"] (sp_law K) := by
  cases hfa.symm.trans (PySem.W.mg_of X G a9)
  have T : Tx mg := ⟨PySem.W.mg_none_of X G zb_abs, PySem.W.mg_none_of X G zb_all, PySem.W.mg_none_of X G zb_bool, PySem.W.mg_none_of X G zb_int, PySem.W.mg_none_of X G zb_isinstance, PySem.W.mg_none_of X G zb_len, PySem.W.mg_none_of X G zb_list, PySem.W.mg_none_of X G zb_ord, PySem.W.mg_none_of X G zb_range, PySem.W.mg_none_of X G zb_str, ⟨_, PySem.W.mg_of X G zc_NEWLINE, ⟨_, rfl⟩⟩, ⟨_, PySem.W.mg_of X G zc_SPACE, ⟨_, rfl⟩⟩, ⟨_, PySem.W.mg_of X G zc_PERCENT, ⟨_, rfl⟩⟩, ⟨_, PySem.W.mg_of X G zc_TILDE, ⟨_, rfl⟩⟩, ⟨_, PySem.W.mg_of X G zc_SIGNS_BEFORE, ⟨_, rfl⟩⟩, ⟨_, PySem.W.mg_of X G zc_SIGNS_BEHIND, ⟨_, rfl⟩⟩, ⟨_, PySem.W.mg_of X G zc_DIGIT_BITS, ⟨_, rfl⟩⟩⟩
  have F0 := fun_mk (st := s__is_code) l0 c0 k0
  have b0 := F0.binds (ps := ["code"]) fun _ _ _ _ _ _ us hl => match us, hl with | [_], _ => rfl
  have F1 := fun_mk (st := s__codes) l1 c1 k1
  have b1 := F1.binds (ps := ["key"]) fun _ _ _ _ _ _ us hl => match us, hl with | [_], _ => rfl
  have F2 := fun_mk (st := s__sign) l2 c2 k2
  have b2 := F2.binds (ps := ["code"]) fun _ _ _ _ _ _ us hl => match us, hl with | [_], _ => rfl
  have F3 := fun_mk (st := s_content_key) l3 c3 k3
  have b3 := F3.binds (ps := ["text"]) fun _ _ _ _ _ _ us hl => match us, hl with | [_], _ => rfl
  have F4 := fun_mk (st := s_key_text) l4 c4 k4
  have b4 := F4.binds (ps := ["key"]) fun _ _ _ _ _ _ us hl => match us, hl with | [_], _ => rfl
  have F5 := fun_mk (st := s__law_cell) l5 c5 k5
  have b5 := F5.binds (ps := ["script", "k"]) fun _ _ _ _ _ _ us hl => match us, hl with | [_, _], _ => rfl
  have F6 := fun_mk (st := s__law_text) l6 c6 k6
  have b6 := F6.binds (ps := ["numbers"]) fun _ _ _ _ _ _ us hl => match us, hl with | [_], _ => rfl
  have F7 := fun_mk (st := s__law_is_integer) l7 c7 k7
  have b7 := F7.binds (ps := ["value"]) fun _ _ _ _ _ _ us hl => match us, hl with | [_], _ => rfl
  have F8 := fun_mk (st := s__law_key) l8 c8 k8
  have b8 := F8.binds (ps := ["text"]) fun _ _ _ _ _ _ us hl => match us, hl with | [_], _ => rfl
  have F9 := fun_mk (st := s_law) l9 c9 k9
  have b9 := F9.binds (ps := ["script"]) fun _ _ _ _ _ _ us hl => match us, hl with | [_], _ => rfl
  refine ⟨PySem.W.fnOf "law" "law" (defArgs s_law) (defBody s_law) (defScope s_law) .none kV9 dc9 pm9 an9 cd9 ct9, fun s v => .of_eq rfl, fun base _ _ => ?_⟩
  have C__is_code : Kn.Cl l.prog w K mg base 1 "_is_code" (sp__is_code K) := Kn.cl_of (ok__is_code F0 T) F0 (PySem.W.mg_of X G a0) b0
  have C__codes : Kn.Cl l.prog w K mg base 1 "_codes" (sp__codes K) := Kn.cl_of (ok__codes F1 T) F1 (PySem.W.mg_of X G a1) b1
  have C__sign : Kn.Cl l.prog w K mg base 1 "_sign" (sp__sign K) := Kn.cl_of (ok__sign F2 T) F2 (PySem.W.mg_of X G a2) b2
  have C_content_key : Kn.Cl l.prog w K mg base 1 "content_key" (sp_content_key K) := Kn.cl_of (ok_content_key F3 T hdig) F3 (PySem.W.mg_of X G a3) b3
  have C_key_text : Kn.Cl l.prog w K mg base 2 "key_text" (sp_key_text K) := Kn.cl_of (ok_key_text F4 T C__codes C__is_code C__sign) F4 (PySem.W.mg_of X G a4) b4
  have C__law_cell : Kn.Cl l.prog w K mg base 1 "_law_cell" (sp__law_cell K) := Kn.cl_of (ok__law_cell F5 T) F5 (PySem.W.mg_of X G a5) b5
  have C__law_text : Kn.Cl l.prog w K mg base 1 "_law_text" (sp__law_text K) := Kn.cl_of (ok__law_text F6 T) F6 (PySem.W.mg_of X G a6) b6
  have C__law_is_integer : Kn.Cl l.prog w K mg base 1 "_law_is_integer" (sp__law_is_integer K) := Kn.cl_of (ok__law_is_integer F7 T) F7 (PySem.W.mg_of X G a7) b7
  have C__law_key : Kn.Cl l.prog w K mg base 1 "_law_key" (sp__law_key K) := Kn.cl_of (ok__law_key F8 T) F8 (PySem.W.mg_of X G a8) b8
  exact ok_law F9 T C__law_cell C_content_key C_key_text C__law_text C__law_is_integer C__law_key
end My
open PySem PySem.W PyProof.Rows
set_option maxHeartbeats 0 in
theorem PySem.Challenge.cw_kilnyard_k01_key_of_a_text_holds : PySem.Challenge.rw_kilnyard_k01_key_of_a_text.Holds := by
  w_on; o_law; k_head; (case hw => w_witness2)
  k_fill
  refine L2.walk_of (l := PySem.Challenge.rw_kilnyard_k01_key_of_a_text) (n := 63) (k := 3) (x := "script") (CX := fun _ => L2.CX0) (sp := fun w => My.sp_law _) rfl (by decide) rfl ⟨rfl, by decide, by decide⟩ (fun w h Y => PySem.W.kIn_of Y) ?F (fun _ _ a ns hl _ hS => ⟨a, ns, rfl, ⟨hS, hl⟩, fun _ _ => rfl⟩) (fun _ _ _ _ _ h => h)
  case F =>
    intro w mg fa h KX G hmg
    refine' My.all_mk KX G hmg ?a0 ?l0 ?c0 ?k0 ?a1 ?l1 ?c1 ?k1 ?a2 ?l2 ?c2 ?k2 ?a3 ?l3 ?c3 ?k3 ?a4 ?l4 ?c4 ?k4 ?a5 ?l5 ?c5 ?k5 ?a6 ?l6 ?c6 ?k6 ?a7 ?l7 ?c7 ?k7 ?a8 ?l8 ?c8 ?k8 ?a9 ?l9 ?c9 ?k9 ?hdig ?zb_abs ?zb_all ?zb_bool ?zb_int ?zb_isinstance ?zb_len ?zb_list ?zb_ord ?zb_range ?zb_str ?zc_NEWLINE ?zc_SPACE ?zc_PERCENT ?zc_TILDE ?zc_SIGNS_BEFORE ?zc_SIGNS_BEHIND ?zc_DIGIT_BITS
    (case a0 => k_is)
    (case l0 => k_is)
    (case c0 => k_is)
    (case k0 => k_is)
    (case a1 => k_is)
    (case l1 => k_is)
    (case c1 => k_is)
    (case k1 => k_is)
    (case a2 => k_is)
    (case l2 => k_is)
    (case c2 => k_is)
    (case k2 => k_is)
    (case a3 => k_is)
    (case l3 => k_is)
    (case c3 => k_is)
    (case k3 => k_is)
    (case a4 => k_is)
    (case l4 => k_is)
    (case c4 => k_is)
    (case k4 => k_is)
    (case a5 => k_is)
    (case l5 => k_is)
    (case c5 => k_is)
    (case k5 => k_is)
    (case a6 => k_is)
    (case l6 => k_is)
    (case c6 => k_is)
    (case k6 => k_is)
    (case a7 => k_is)
    (case l7 => k_is)
    (case c7 => k_is)
    (case k7 => k_is)
    (case a8 => k_is)
    (case l8 => k_is)
    (case c8 => k_is)
    (case k8 => k_is)
    (case a9 => k_is)
    (case l9 => k_is)
    (case c9 => k_is)
    (case k9 => k_is)
    (case hdig => k_is)
    (case zb_abs => k_is)
    (case zb_all => k_is)
    (case zb_bool => k_is)
    (case zb_int => k_is)
    (case zb_isinstance => k_is)
    (case zb_len => k_is)
    (case zb_list => k_is)
    (case zb_ord => k_is)
    (case zb_range => k_is)
    (case zb_str => k_is)
    (case zc_NEWLINE => k_is)
    (case zc_SPACE => k_is)
    (case zc_PERCENT => k_is)
    (case zc_TILDE => k_is)
    (case zc_SIGNS_BEFORE => k_is)
    (case zc_SIGNS_BEHIND => k_is)
    (case zc_DIGIT_BITS => k_is)

