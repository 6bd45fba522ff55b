import PyProof.Rows.All
import Wide.All
import OpenK.AllK
import Wide.FinOn
import HandS.Evl
import HandS.Codes
import HandS.Iter
import HandS.Dict
import HandS.Text
import HandS.Words
import HandS.Walk
import HandS.IsInst
import HandS.Steps
import HandS.More
import HandS.ReplaceList
import HandS.ReplaceLit
import HandS.Replace
import HandS.ExcInit
import HandS.ExcIs
import HandS.ExcField
import HandS.IntHex
import HandS.FStr
import KE.KExcIs
import KE.KxField
import HandS.WordsExc
import HandS.ReplaceDef
import HandS.TryMany
import HandS.WordsDict
import HandS.StrMore
import PyProof.StrOps2
import PyProof.Rows.SortShellAny
import PySem.Challenge.RW_kilnyard_k13_wrong_expressions
set_option Elab.async false
set_option linter.all false
set_option maxRecDepth 100000
set_option maxHeartbeats 4000000
/-! Kn: what all our proofs share: named relations, values, comprehensions, promises of pure defs. -/
namespace Kn
open PySem PySem.Spec PyProof.Rows L2 Evl SX

/-! ### relations with a name -/
def rAddStr : R2 := fun x y H Q => ∃ i j, x = .str i ∧ y = .str j ∧ i.length + j.length ≤ sizeLine ∧ Q (.str (i ++ j)) H
theorem op_addS {X : Cx} : OpR X (binaryOp .Add) rAddStr := op_add_str
def rLenStr : List V → Hp → VK → Prop := fun xs H Q => ∃ z, xs = [.str z] ∧ z.length ≤ sizeLine ∧ Q (.int z.length) H
theorem cr_lenStr {X : Cx} : CallR X (.builtin "len") rLenStr := call_len_str
theorem cr_lenSeq {X : Cx} : CallR X (.builtin "len") (rLenS X.K) := call_len_seq
def rOrd : List V → Hp → VK → Prop := fun xs H Q => ∃ x, xs = [.str x] ∧ x.length = 1 ∧ Q (.int (x.cps.getD 0 0 : Nat)) H
theorem cr_ord {X : Cx} : CallR X (.builtin "ord") rOrd := call_ord
def rInt1 : List V → Hp → VK → Prop := fun xs H Q => (∃ i, xs = [.int i] ∧ Q (.int i) H) ∨ ∃ k, xs = [.bl k] ∧ Q (.int (if k then 1 else 0)) H
theorem cr_int1 {X : Cx} : CallR X (.type "int") rInt1 := call_int1
def rAbs : List V → Hp → VK → Prop := fun xs H Q => ∃ i, xs = [.int i] ∧ Q (.int (if i < 0 then -i else i)) H
theorem cr_abs {X : Cx} : CallR X (.builtin "abs") rAbs := call_abs
def rJoin (K : PySem.W.Frag) : V → List V → Hp → VK → Prop := fun x xs H Q => ∃ a p, ∃ ys : List Str, x = .str a ∧ xs = [.ref p] ∧ (SqL K H p (ys.map V.str) ∨ SqT K H p (ys.map V.str)) ∧ (ys.map (·.length)).sum + ys.length * a.length ≤ 16777216 ∧ Q (.str (Txt.join a ys)) H
theorem pe_joinN {X : Cx} {e : Expr} {to te : TE} (h : PE X e (tM1 (fun x xs H Q => ∃ a p, ∃ ys : List Str, x = .str a ∧ xs = [.ref p] ∧ (SqL X.K H p (ys.map V.str) ∨ SqT X.K H p (ys.map V.str)) ∧ (ys.map (·.length)).sum + ys.length * a.length ≤ 16777216 ∧ Q (.str (Txt.join a ys)) H) to te)) : PE X e (tM1 (rJoin X.K) to te) := h
theorem cr_isi {X : Cx} : CallR X (.builtin "isinstance") (rIsi X.K) := call_isi

/-! ### values -/
section
variable {K : PySem.W.Frag} {σ : L2.St} {H H' : Hp} {ta tb te tc : TE} {t u : TT} {x y z v : V}
theorem val_abs (i : Int) : (if i < 0 then -i else i) = (i.natAbs : Int) := by split <;> omega
theorem rc_abs {i : Int} : RC rAbs [.int i] H (.int (i.natAbs : Int)) := fun H1 _ _ q => ⟨i, rfl, by rw [val_abs]; exact q H1 (Ex.refl H1)⟩
theorem rc_int {i : Int} : RC rInt1 [.int i] H (.int i) := fun H1 _ _ q => .inl ⟨i, rfl, q H1 (Ex.refl H1)⟩
theorem rc_intB {b : Bool} : RC rInt1 [.bl b] H (.int (if b then 1 else 0)) := fun H1 _ _ q => .inr ⟨b, rfl, q H1 (Ex.refl H1)⟩
theorem rc_ord {c : Nat} : RC rOrd [.str (S [c])] H (.int (c : Int)) := fun H1 _ _ q => ⟨S [c], rfl, rfl, q H1 (Ex.refl H1)⟩
theorem rc_lenS {l : List Nat} (h : l.length ≤ 100000) : RC rLenStr [.str (S l)] H (.int (l.length : Int)) := fun H1 _ _ q => ⟨S l, rfl, by rw [S_len]; exact sz_of h, by rw [S_len]; exact q H1 (Ex.refl H1)⟩
theorem rv_addS {a b : List Nat} (h : a.length + b.length ≤ 100000) : RV rAddStr (.str (S a)) (.str (S b)) H (.str (S (a ++ b))) := fun H1 _ _ q =>
  ⟨S a, S b, rfl, rfl, by rw [S_len, S_len]; exact sz_of h, by rw [S_cat]; exact q H1 (Ex.refl H1)⟩
theorem rv_mod {i j : Int} (h : 0 < j) : RV (rI (fun _ j => 0 < j) fun i j => .int (i % j)) (.int i) (.int j) H (.int (i % j)) := rv_I h
theorem rv_fdiv {i j : Int} (h : CDiv i j) : RV (rI CDiv fun i j => .int (i / j)) (.int i) (.int j) H (.int (i / j)) := rv_I h
theorem rv_mul {i j : Int} (h : CMul i j) : RV (rI CMul fun i j => .int (i * j)) (.int i) (.int j) H (.int (i * j)) := rv_I h
theorem S1 (x : Str) {l : List Nat} (h : x.cps.toList = l) : x = S l := TL.ext_tl h
theorem ev_chain {r r' : R2} {k b : Bool} (ha : Ev ta σ H x) (hb : Ev tb σ H y) (hr : RV r x y H (.bl k)) (hc : Ev tc σ H z) (hr' : RV r' y z H (.bl b)) : Ev (tChain r r' ta tb tc) σ H (.bl (k && b)) := fun H1 e Q q =>
  ha H1 e _ fun H2 e2 => hb H2 (e.trans e2) _ fun H3 e3 => hr H3 ((e.trans e2).trans e3) _ fun H4 e4 => ⟨k, rfl, by
    have e14 := (e2.trans e3).trans e4
    cases k with
    | true =>
      show tc σ H4 fun w' H5 => r' y w' H5 Q
      exact hc H4 (e.trans e14) _ fun H5 e5 => hr' H5 ((e.trans e14).trans e5) Q fun H6 e6 => q H6 ((e14.trans e5).trans e6)
    | false =>
      show Q (.bl false) H4
      exact q H4 e14⟩
theorem ev_idxS {l : List Nat} {i : Int} {c : Nat} (ha : Ev ta σ H (.str (S l))) (hb : Ev tb σ H (.int i)) (h : l.length ≤ 100000) (hat : atI l i = some c) : Ev (tOp rIxS ta tb) σ H (.str (S [c])) := ev_op ha hb (rv_ixS (w := S l) (by rw [S_len]; exact h) hat)
theorem atI_nat' {α : Type} {xs : List α} {i : Int} {j : Nat} {v : α} (hi : i = (j : Int)) (h : xs[j]? = some v) : atI xs i = some v := by
  subst hi
  exact atI_nat h
theorem ev_join {s : List Nat} {ys : List (List Nat)} (hs : Ev ta σ H (.str (S s))) (hl : EvL tb σ H (ys.map fun l => V.str (S l))) (hz : (ys.map (·.length)).sum + ys.length * s.length ≤ 16777216) : Ev (tM1 (rJoin K) ta tb) σ H (.str (S (TL.joinL s ys))) := fun H1 e Q q =>
  hs H1 e _ fun H2 e2 => ⟨⟨_, rfl⟩, hl H2 (e.trans e2) _ fun p H3 _ e3 hp => ⟨S s, p, ys.map S, rfl, rfl, .inl (.inl (.inl (by rw [List.map_map]; exact hp))), by
    rw [SX.lens, List.length_map, S_len]
    exact hz, by
    rw [SX.join_S]
    exact q H3 (e2.trans e3)⟩⟩
theorem ev_slS {to tp : TO} {l : List Nat} {lo hi : Option Int} (h : Ev te σ H (.str (S l))) (h1 : EvO to σ H lo) (h2 : EvO tp σ H hi) (hz : l.length ≤ 100000) : Ev (tSl rSlS te to tp) σ H (.str (cutS (S l) lo hi)) := fun H1 e _ q =>
  h H1 e _ fun H2 e2 => h1 H2 (e.trans e2) _ fun H3 e3 => h2 H3 ((e.trans e2).trans e3) _ fun H4 e4 => ⟨S l, rfl, by rw [S_len]; exact sz_of hz, q H4 ((e2.trans e3).trans e4)⟩
theorem ev_isi {T : String} {c : String} {b : Bool} (ha : Ev ta σ H x) (ht : TyX K H x (.type T)) (hb : kitB T c = some b) (hm : ∀ H1, Ex H H1 → TyX K H1 x (.type T)) : Ev (tCB (rIsi K) (tCons ta (tCons (tC (.ty c)) tNil))) σ H (.bl b) := fun H1 e Q q =>
  ha H1 e _ fun H2 e2 => ⟨x, .ty c, .type T, .type c, b, rfl, .ty c, hm H2 (e.trans e2), kit_ty hb, q H2 e2⟩
theorem ev_all {τ : Type} {xs : List τ} {p : τ → Bool} (ha : EvL ta σ H (xs.map fun a => V.bl (p a))) : Ev (tCB (rAll K) (tCons ta tNil)) σ H (.bl (xs.all p)) := fun H1 e Q q =>
  ha H1 e _ fun a H2 _ e2 h2 => ⟨a, xs.map p, rfl, sq_of (by rw [List.map_map]; exact h2), by
    have hh : (xs.map p).all id = xs.all p := by rw [List.all_map]; rfl
    rw [hh]
    exact q H2 e2⟩

/-! ### comprehensions: no test, a new list of what each item gives -/
theorem given_all {α : Type} {xs : List α} {f : α → V} {d : V} : given xs.length (fun _ => true) (fun i => (xs[i]?.map f).getD d) = xs.map f := by
  unfold given
  rw [List.filter_eq_self.mpr (fun _ _ => rfl)]
  refine List.ext_getElem (by simp) fun i h1 h2 => ?_
  simp at h1 h2
  simp [h2]
theorem et_yes {H : Hp} : EvT tYes σ H true := fun H1 _ _ q => q H1 (Ex.refl H1)
theorem el_lcM {τ : Type} {a : Addr} {ns : List τ} {g f : τ → V} {tl : TE} {j : Nat} {vs : List Nat} (h : Ev tl σ H (.ref a)) (hx : SqL K H a (ns.map g)) (hz : ns.length ≤ 40000) (hw : ∀ x, wipe ((wipe σ vs).set j (some x)) vs = wipe σ vs)
    (he : ∀ n ∈ ns, ∀ H1, Ex H H1 → Ev te ((wipe σ vs).set j (some (g n))) H1 (f n)) : EvL (tLc (iList K tl) (gName j) tYes te vs) σ H (ns.map f) := by
  have k := el_lcL (K := K) (te := te) (t := tYes) (j := j) (vs := vs) (fun _ => true) (fun i => (ns[i]?.map f).getD .non) h hx (by rw [List.length_map]; exact hz) hw (fun _ _ H1 _ _ => et_yes) (fun i x H1 e hi _ => by
    rw [List.getElem?_map] at hi
    cases hn : ns[i]? with
    | none => rw [hn] at hi; cases hi
    | some n =>
      rw [hn] at hi
      cases Option.some.inj hi
      exact he n (List.mem_of_getElem? hn) H1 e)
  rw [List.length_map, given_all] at k
  exact k
theorem el_lcN {τ : Type} {ns : List τ} {g f : τ → V} {tl : TE} {j : Nat} {vs : List Nat} (h : EvL tl σ H (ns.map g)) (hz : ns.length ≤ 40000) (hw : ∀ x, wipe ((wipe σ vs).set j (some x)) vs = wipe σ vs)
    (he : ∀ n ∈ ns, ∀ H1, Ex H H1 → Ev te ((wipe σ vs).set j (some (g n))) H1 (f n)) : EvL (tLc (iList K tl) (gName j) tYes te vs) σ H (ns.map f) := by
  have k := el_lcNL (K := K) (te := te) (t := tYes) (j := j) (vs := vs) (fun _ => true) (fun i => (ns[i]?.map f).getD .non) h (by rw [List.length_map]; exact hz) hw (fun _ _ H1 _ _ => et_yes) (fun i x H1 e hi _ => by
    rw [List.getElem?_map] at hi
    cases hn : ns[i]? with
    | none => rw [hn] at hi; cases hi
    | some n =>
      rw [hn] at hi
      cases Option.some.inj hi
      exact he n (List.mem_of_getElem? hn) H1 e)
  rw [List.length_map, given_all] at k
  exact k
theorem el_lcR {n : Int} {f : Nat → V} {ta : TA} {j : Nat} {vs : List Nat} (h : EvA ta σ H [.int n]) (hn : 0 ≤ n ∧ n ≤ 40000) (hw : ∀ x, wipe ((wipe σ vs).set j (some x)) vs = wipe σ vs)
    (he : ∀ (i : Nat) H1, Ex H H1 → (i : Int) < n → Ev te ((wipe σ vs).set j (some (.int (i : Int)))) H1 (f i)) : EvL (tLc (iRng1 ta) (gName j) tYes te vs) σ H ((List.range n.toNat).map f) := by
  have k := el_lcR1 (te := te) (t := tYes) (j := j) (vs := vs) (fun _ => true) f h hn hw (fun _ H1 _ _ => et_yes) (fun i H1 e hi _ => he i H1 e hi)
  unfold given at k
  rw [List.filter_eq_self.mpr (fun _ _ => rfl)] at k
  exact k
/-- over the signs of a text -/
theorem el_lcS {l : List Nat} {f : Nat → V} {ts : TE} {j : Nat} {vs : List Nat} (h : Ev ts σ H (.str (S l))) (hz : l.length ≤ 40000) (hw : ∀ x, wipe ((wipe σ vs).set j (some x)) vs = wipe σ vs)
    (he : ∀ c ∈ l, ∀ H1, Ex H H1 → Ev te ((wipe σ vs).set j (some (.str (S [c])))) H1 (f c)) : EvL (tLc (iStr ts) (gName j) tYes te vs) σ H (l.map f) := fun H0 e Q q => h H0 e _ fun H1 e1 => ⟨S l, rfl, fun Dl hD => by
  have hl : (S l).cps.size = l.length := by simp [S]
  refine lc_it walk_str (Cw H1 (fun _ => true) (fun i => (l[i]?.map f).getD .non) Dl) ⟨hD, Ex.new hD, upd_same⟩ (fun _ _ _ _ => trivial) (fun i x H2 H3 hi p y => ?_) (fun H2 p => ?_)
  · obtain ⟨rfl, c, hc, rfl⟩ := y
    have hc' : l[i]? = some c := by simpa [S] using hc
    refine ⟨hw _, cw_turn p (by rw [hl] at hi; omega) et_yes (fun _ => ?_)⟩
    rw [hc']
    exact he c (List.mem_of_getElem? hc') H1 (e.trans e1)
  · rw [hl] at p
    have := p.2.2
    rw [given_all] at this
    exact q Dl H2 (fresh_back e1 p.1) (e1.trans p.2.1) this⟩
end

/-! ### promises of pure defs: a value, a new list -/
def Rt (H : Hp) (v : V) (Q : VK) : Prop := ∀ H1, Ex H H1 → Q v H1
def Rl (H : Hp) (xs : List V) (Q : VK) : Prop := ∀ p H1, H p = none → Ex H H1 → H1 p = some (.lst xs) → Q (.ref p) H1
def sp1 {α : Type} (A : α → List V) (pre : α → Hp → Prop) (val : α → V) : Sp := fun vs H Q _ => ∃ a, vs = A a ∧ pre a H ∧ Rt H (val a) Q
def sp2 {α β : Type} (A : α → β → List V) (pre : α → β → Hp → Prop) (val : α → β → V) : Sp := fun vs H Q _ => ∃ a b, vs = A a b ∧ pre a b H ∧ Rt H (val a b) Q
def sp3 {α β γ : Type} (A : α → β → γ → List V) (pre : α → β → γ → Hp → Prop) (val : α → β → γ → V) : Sp := fun vs H Q _ => ∃ a b c, vs = A a b c ∧ pre a b c H ∧ Rt H (val a b c) Q
def sl1 {α : Type} (A : α → List V) (pre : α → Hp → Prop) (val : α → List V) : Sp := fun vs H Q _ => ∃ a, vs = A a ∧ pre a H ∧ Rl H (val a) Q
def sl2 {α β : Type} (A : α → β → List V) (pre : α → β → Hp → Prop) (val : α → β → List V) : Sp := fun vs H Q _ => ∃ a b, vs = A a b ∧ pre a b H ∧ Rl H (val a b) Q
def sl3 {α β γ : Type} (A : α → β → γ → List V) (pre : α → β → γ → Hp → Prop) (val : α → β → γ → List V) : Sp := fun vs H Q _ => ∃ a b c, vs = A a b c ∧ pre a b c H ∧ Rl H (val a b c) Q
section
variable {K : PySem.W.Frag} {σ : L2.St} {H H' : Hp} {ta : TA} {E : XK} {α β γ : Type}
theorem ev_c1 {A : α → List V} {pre : α → Hp → Prop} {val : α → V} {a : α} (h : EvA ta σ H (A a)) (hp : ∀ H1, Ex H H1 → pre a H1) : Ev (tCall (sp1 A pre val) [] E ta) σ H (val a) := fun H1 e Q q =>
  h H1 e _ fun H2 e2 => ⟨a, List.append_nil _, hp H2 (e.trans e2), fun H3 e3 => q H3 (e2.trans e3)⟩
theorem ev_c2 {A : α → β → List V} {pre : α → β → Hp → Prop} {val : α → β → V} {a : α} {b : β} (h : EvA ta σ H (A a b)) (hp : ∀ H1, Ex H H1 → pre a b H1) : Ev (tCall (sp2 A pre val) [] E ta) σ H (val a b) := fun H1 e Q q =>
  h H1 e _ fun H2 e2 => ⟨a, b, List.append_nil _, hp H2 (e.trans e2), fun H3 e3 => q H3 (e2.trans e3)⟩
theorem ev_c3 {A : α → β → γ → List V} {pre : α → β → γ → Hp → Prop} {val : α → β → γ → V} {a : α} {b : β} {c : γ} (h : EvA ta σ H (A a b c)) (hp : ∀ H1, Ex H H1 → pre a b c H1) : Ev (tCall (sp3 A pre val) [] E ta) σ H (val a b c) := fun H1 e Q q =>
  h H1 e _ fun H2 e2 => ⟨a, b, c, List.append_nil _, hp H2 (e.trans e2), fun H3 e3 => q H3 (e2.trans e3)⟩
theorem el_c1 {A : α → List V} {pre : α → Hp → Prop} {val : α → List V} {a : α} (h : EvA ta σ H (A a)) (hp : ∀ H1, Ex H H1 → pre a H1) : EvL (tCall (sl1 A pre val) [] E ta) σ H (val a) := fun H1 e Q q =>
  h H1 e _ fun H2 e2 => ⟨a, List.append_nil _, hp H2 (e.trans e2), fun p H3 hp e3 h3 => q p H3 (fresh_back e2 hp) (e2.trans e3) h3⟩
theorem el_c2 {A : α → β → List V} {pre : α → β → Hp → Prop} {val : α → β → List V} {a : α} {b : β} (h : EvA ta σ H (A a b)) (hp : ∀ H1, Ex H H1 → pre a b H1) : EvL (tCall (sl2 A pre val) [] E ta) σ H (val a b) := fun H1 e Q q =>
  h H1 e _ fun H2 e2 => ⟨a, b, List.append_nil _, hp H2 (e.trans e2), fun p H3 hp e3 h3 => q p H3 (fresh_back e2 hp) (e2.trans e3) h3⟩
theorem el_c3 {A : α → β → γ → List V} {pre : α → β → γ → Hp → Prop} {val : α → β → γ → List V} {a : α} {b : β} {c : γ} (h : EvA ta σ H (A a b c)) (hp : ∀ H1, Ex H H1 → pre a b c H1) : EvL (tCall (sl3 A pre val) [] E ta) σ H (val a b c) := fun H1 e Q q =>
  h H1 e _ fun H2 e2 => ⟨a, b, c, List.append_nil _, hp H2 (e.trans e2), fun p H3 hp e3 h3 => q p H3 (fresh_back e2 hp) (e2.trans e3) h3⟩
/-- a call one of whose arguments is a new list: f([..]) -/
theorem ev_c1L {τ : Type} {te : TE} {A : Addr → List τ → List V} {pre : Addr → List τ → Hp → Prop} {val : Addr → List τ → V} {v : V} {xs : List V} (h : EvL te σ H xs) (ns : List τ) (hA : ∀ p, A p ns = [.ref p]) (hp : ∀ p H1, Ex H H1 → H1 p = some (.lst xs) → pre p ns H1) (hv : ∀ p, val p ns = v) :
    Ev (tCall (sp2 A pre val) [] E (tCons te tNil)) σ H v := fun H1 e Q q =>
  h H1 e _ fun p H2 hn e2 h2 => ⟨p, ns, by rw [hA]; rfl, hp p H2 (e.trans e2) h2, fun H3 e3 => by
    rw [hv]
    exact q H3 (e2.trans e3)⟩
end

/-! ### a def that may be called by its name -/
structure Cl (P : Program) (w : World) (K : PySem.W.Frag) (mg : Str → Option Value) (base : Heap) (k : Nat) (x : Str) (sp : Sp) : Prop where
  ex : ∃ (f : Addr) (fd : FuncData) (ps : List Str), FnOk P w K mg base CX0 k f fd ps sp ∧ mg x = some (.ref f) ∧ PySem.W.keepIn K (.ref f) = true ∧ Binds K fd ps []
section
variable {P : Program} {w : World} {K : PySem.W.Frag} {mg : Str → Option Value} {base : Heap}
theorem cl_of {k : Nat} {x : Str} {sp : Sp} {st : Stmt} {f : Addr} {fd : FuncData} {ps : List Str} (ok : FnOk P w K mg base CX0 k f fd ps sp) (F : Fun K x x st f fd) (g : mg x = some (.ref f)) (b : Binds K fd ps []) : Cl P w K mg base k x sp := ⟨f, fd, ps, ok, g, F.kp, b⟩
variable {X : Cx} {k j : Nat} {x : Str} {sp : Sp} {p pos : Pos} {e : Expr} {es : List Expr} {t : TA}
theorem pe_cl (c : Cl X.prog X.w X.K X.mg X.base k x sp) (hr : Room j X.A) (hk : k ≤ j) (hg : Gl X x) (ha : PA X (e :: es) t)
    (hdb : (x == ("__debug__" : Str)) = false := by decide) (he : starEach (e :: es) X.env = (false, eval e X.env) :: starEach es X.env := by rfl) (hpl : (backTo pos (starEach es X.env)).any (·.1) = false := by rfl) :
    PE X (.Call (.Name x p) (e :: es) [] pos) (tCall sp [] E0 t) := by
  obtain ⟨f, fd, ps, F, hm, kp, b⟩ := c.ex
  exact pe_call F (hr.mono hk) hg hm kp b .nil pass0 ha hdb he hpl
theorem pe_cl0 (c : Cl X.prog X.w X.K X.mg X.base k x sp) (hr : Room j X.A) (hk : k ≤ j) (hg : Gl X x)
    (hdb : (x == ("__debug__" : Str)) = false := by decide) :
    PE X (.Call (.Name x p) [] [] pos) (tCall sp [] E0 tNil) := by
  obtain ⟨f, fd, ps, F, hm, kp, b⟩ := c.ex
  exact pe_call0 F (hr.mono hk) hg hm kp b .nil pass0 hdb
end
end Kn
/-! ### values, step by step -/
namespace Kn
open PySem PySem.Spec PyProof.Rows L2 Evl SX
section
variable {H : Hp}
theorem rv_eqI {a b : Int} : RV rEq (.int a) (.int b) H (.bl (decide (a = b))) := fun H1 _ _ q => ⟨rfl, by
  have e : decide (V.int a = V.int b) = decide (a = b) := by simp
  rw [e]
  exact q H1 (Ex.refl H1)⟩
theorem rv_neI {a b : Int} : RV rNe (.int a) (.int b) H (.bl (!decide (a = b))) := fun H1 _ _ q => ⟨rfl, by
  have e : decide (V.int a = V.int b) = decide (a = b) := by simp
  rw [e]
  exact q H1 (Ex.refl H1)⟩
theorem dec_S {a b : List Nat} : decide (V.str (S a) = V.str (S b)) = decide (a = b) := by
  by_cases h : a = b
  · subst h
    simp
  · rw [decide_eq_false h, decide_eq_false (fun e => h (S_inj (V.str.inj e)))]
theorem rv_eqS {a b : List Nat} : RV rEq (.str (S a)) (.str (S b)) H (.bl (decide (a = b))) := fun H1 _ _ q => ⟨rfl, by
  rw [dec_S]
  exact q H1 (Ex.refl H1)⟩
theorem rv_neS {a b : List Nat} : RV rNe (.str (S a)) (.str (S b)) H (.bl (!decide (a = b))) := fun H1 _ _ q => ⟨rfl, by
  rw [dec_S]
  exact q H1 (Ex.refl H1)⟩
theorem rv_le {a b : Int} : RV (rI0 fun i j => .bl (decide (i ≤ j))) (.int a) (.int b) H (.bl (decide (a ≤ b))) := rv_I0
theorem rv_lt {a b : Int} : RV (rI0 fun i j => .bl (decide (i < j))) (.int a) (.int b) H (.bl (decide (a < b))) := rv_I0
theorem rv_inS {c : Nat} {l : List Nat} : RV rInS (.str (S [c])) (.str (S l)) H (.bl (decide (c ∈ l))) := fun H1 _ _ q => ⟨c, S l, rfl, rfl, q H1 (Ex.refl H1)⟩
theorem rv_ninS {c : Nat} {l : List Nat} : RV rNotInS (.str (S [c])) (.str (S l)) H (.bl (!decide (c ∈ l))) := fun H1 _ _ q => ⟨c, S l, rfl, rfl, q H1 (Ex.refl H1)⟩
end
end Kn
/-! ### lists cut, texts cut, constants -/
namespace Kn
open PySem PySem.Spec PyProof.Rows L2 Evl SX
theorem cut_nat {α : Type} (xs : List α) (a b : Nat) : (xs.drop (min a xs.length)).take (min b xs.length - min a xs.length) = (xs.drop a).take (b - a) := by
  by_cases h : a ≤ xs.length
  · have e : min a xs.length = a := Nat.min_eq_left h
    rw [e, List.take_eq_take_iff, List.length_drop]
    omega
  · have e : xs.drop a = [] := List.drop_of_length_le (by omega)
    have e2 : xs.drop (min a xs.length) = [] := List.drop_of_length_le (by omega)
    rw [e, e2, List.take_nil, List.take_nil]
theorem cutV_nat {xs : List V} (a b : Nat) : cutV xs (some (a : Int)) (some (b : Int)) = (xs.drop a).take (b - a) := by
  unfold cutV
  rw [HT.sIx_nat, HT.sIx_nat]
  exact cut_nat xs a b
theorem cutV_map {τ : Type} {g : τ → V} {ns : List τ} {i j : Int} (a b : Nat) (hi : i = (a : Int)) (hj : j = (b : Int)) : cutV (ns.map g) (some i) (some j) = ((ns.drop a).take (b - a)).map g := by
  subst hi hj
  rw [cutV_nat, List.map_take, List.map_drop]
theorem join_nil : ∀ ys : List (List Nat), TL.joinL [] ys = ys.flatten
  | [] => rfl
  | [p] => by rw [List.flatten_cons, List.flatten_nil, List.append_nil]; rfl
  | p :: q :: r => by
    show p ++ ([] ++ TL.joinL [] (q :: r)) = _
    rw [join_nil (q :: r), List.nil_append, List.flatten_cons (l := p)]
section
variable {K : PySem.W.Frag} {σ : L2.St} {H H' : Hp} {ta tb te tc : TE} {t u : TT} {x y z v : V}
theorem ev_cS {x : Str} {l : List Nat} (h : x.cps.toList = l) : Ev (tC (.str x)) σ H (.str (S l)) := by
  rw [S1 x h]
  exact ev_c
theorem el_slN {τ : Type} {g : τ → V} {ns : List τ} {i j : Int} {p : Addr} {to tp : TO} (h : Ev te σ H (.ref p)) (h1 : EvO to σ H (some i)) (h2 : EvO tp σ H (some j)) (hs : SqL K H p (ns.map g)) (a b : Nat) (hi : i = (a : Int)) (hj : j = (b : Int)) :
    EvL (tSl (rSlL K) te to tp) σ H (((ns.drop a).take (b - a)).map g) := by
  rw [← cutV_map a b hi hj]
  exact el_sl h h1 h2 hs
theorem ev_slTo {to tp : TO} {l : List Nat} {i : Int} (h : Ev te σ H (.str (S l))) (h1 : EvO to σ H none) (h2 : EvO tp σ H (some i)) (hz : l.length ≤ 100000) (hi : 0 ≤ i) : Ev (tSl rSlS te to tp) σ H (.str (S (l.take i.toNat))) := by
  have k := ev_slS h h1 h2 hz
  rw [C8.cutS_slice, slice_to hi] at k
  exact k
theorem ev_slFrom {to tp : TO} {l : List Nat} {i : Int} (h : Ev te σ H (.str (S l))) (h1 : EvO to σ H (some i)) (h2 : EvO tp σ H none) (hz : l.length ≤ 100000) (hi : 0 ≤ i) : Ev (tSl rSlS te to tp) σ H (.str (S (l.drop i.toNat))) := by
  have k := ev_slS h h1 h2 hz
  rw [C8.cutS_slice, slice_from hi] at k
  exact k
theorem ev_isiB {b : Bool} (ha : Ev ta σ H (.bl b)) : Ev (tCB (rIsi K) (tCons ta (tCons (tC (.ty "bool")) tNil))) σ H (.bl true) := ev_isi (T := "bool") ha (.base (.bl b)) (by decide +kernel) fun _ _ => .base (.bl b)
/-- == of two lists of data -/
theorem eqv_lists {xs ys : List PyData} (h : PyData.eqv (.list xs) (.list ys) = b) : PyData.eqv (.list xs) (.list ys) = b := h
end
end Kn
namespace Kn
open PySem PySem.Spec PyProof.Rows L2 Evl SX
section
variable {K : PySem.W.Frag} {σ : L2.St} {H H' : Hp} {ta tb te tc : TE} {t u : TT} {x y z v : V} {D : Ends} {tu tw tz : TS}
/-- an if whose two ways meet again -/
theorem q_ifM {b : Bool} (M : L2.St → Hp → Prop) (h : EvT t σ H b) (h1 : b = true → ∀ H1, Ex H H1 → ∀ N : L2.St → Hp → Prop, (∀ σ' H', M σ' H' → N σ' H') → tu { D with nx := N } σ H1)
    (h2 : b = false → ∀ H1, Ex H H1 → ∀ N : L2.St → Hp → Prop, (∀ σ' H', M σ' H' → N σ' H') → tw { D with nx := N } σ H1) (k : ∀ σ' H', M σ' H' → tz D σ' H') : tSeq (tIfS t tu tw) tz D σ H :=
  s_if (D := { D with nx := tz D }) h (fun hb H1 e => h1 hb H1 e _ k) (fun hb H1 e => h2 hb H1 e _ k)
theorem s_next (h : D.nx σ H) : tNext D σ H := h
theorem eqD_true {p q : Addr} {xs : List V} {ds : List PyData} (hp : SqL K H p xs) (hq : SqL K H q xs) (hd : ∀ H1, Ex H H1 → DpAll K H1 xs ds) (hs : SeqAt.shaped (.list ds) = true) (hl : PyData.eqv (.list ds) (.list ds) = true) : RV (rEqD K) (.ref p) (.ref q) H (.bl true) := fun H1 e Q k =>
  ⟨.list ds, .list ds, .lst (ex_l e hp) (hd H1 e), .lst (ex_l e hq) (hd H1 e), hs, hs, by rw [hl]; exact k H1 (Ex.refl H1)⟩
end
end Kn
/-! ### rpartition; joins; more of lists -/
namespace Kn
open PySem PySem.Spec PyProof.Rows L2 Evl SX
def rRpart : V → List V → Hp → VK → Prop := fun x xs H Q => ∃ a b, x = .str a ∧ xs = [.str b] ∧ (b.length == 0) = false ∧ a.length ≤ sizeLine ∧ ∀ p, H p = none → Q (.ref p) (upd H p (.tup [.str (Txt.rpartition a b).1, .str (Txt.rpartition a b).2.1, .str (Txt.rpartition a b).2.2]))
theorem mt_rpartition {X : Cx} : MtR X "str.rpartition" rRpart := by
  intro pins s σ H x xs v us Q I rx rs h
  obtain ⟨a, b, rfl, rfl, hb, hz, h⟩ := h
  obtain ⟨t, rfl⟩ := rx
  cases rs with
  | cons r1 rs =>
    cases rs
    obtain ⟨u, rfl⟩ := r1
    refine call_meets F.slot_str_rpartition (typeIs_str _ _ _) F.entry_str_rpartition (F.args_str_rpartition_2 _ _) (meets_str_rpartition a b t u hb hz) ?_
    unfold Txt.rpartition at h
    revert h
    cases Builtin.Str.lastOccurrence a b 0 a.length with
    | none => intro h; exact laid_parts I h
    | some i => intro h; exact laid_parts I h
section
variable {K : PySem.W.Frag} {σ : L2.St} {H H' : Hp} {ta tb te tc : TE} {t u : TT} {x y z v : V}
theorem ev_rpart0 {l m : List Nat} (ha : Ev ta σ H (.str (S l))) (hb : Ev tb σ H (.str (S m))) (hm : m ≠ []) (hl : l.length ≤ 100000) : Ev (tOp (rIxT K) (tM1 rRpart ta tb) (tC (.int 0))) σ H (.str (Txt.rpartition (S l) (S m)).1) := fun H1 e Q q =>
  ha H1 e _ fun H2 e2 => ⟨⟨_, rfl⟩, hb H2 (e.trans e2) _ fun H3 e3 => ⟨S l, S m, rfl, rfl, by
    rw [S_len]
    cases m with
    | nil => exact absurd rfl hm
    | cons a r => rfl, by rw [S_len]; exact sz_of hl, fun p hp =>
      ⟨p, _, 0, _, rfl, rfl, st_of upd_same, atI_nat (j := 0) rfl, q _ ((e2.trans e3).trans (Ex.new hp))⟩⟩⟩
theorem ev_joinV {s : List Nat} {ys : List (List Nat)} {p : Addr} (hs : Ev ta σ H (.str (S s))) (hl : Ev tb σ H (.ref p)) (hp : SqL K H p (ys.map fun l => V.str (S l))) (hz : (ys.map (·.length)).sum + ys.length * s.length ≤ 16777216) : Ev (tM1 (rJoin K) ta tb) σ H (.str (S (TL.joinL s ys))) := fun H1 e Q q =>
  hs H1 e _ fun H2 e2 => ⟨⟨_, rfl⟩, hl H2 (e.trans e2) _ fun H3 e3 => ⟨S s, p, ys.map S, rfl, rfl, .inl (by rw [List.map_map]; exact ex_l ((e.trans e2).trans e3) hp), by
    rw [SX.lens, List.length_map, S_len]
    exact hz, by
    rw [SX.join_S]
    exact q H3 (e2.trans e3)⟩⟩
theorem el_slTo {τ : Type} {g : τ → V} {ns : List τ} {j : Int} {p : Addr} {to tp : TO} (h : Ev te σ H (.ref p)) (h1 : EvO to σ H none) (h2 : EvO tp σ H (some j)) (hs : SqL K H p (ns.map g)) (b : Nat) (hj : j = (b : Int)) :
    EvL (tSl (rSlL K) te to tp) σ H ((ns.take b).map g) := by
  have e : cutV (ns.map g) none (some j) = (ns.take b).map g := by
    subst hj
    have k := cutV_nat (xs := ns.map g) 0 b
    unfold cutV at k ⊢
    rw [HT.sIx_none, HT.sIx_nat]
    rw [HT.sIx_nat, HT.sIx_nat, Nat.zero_min] at k
    rw [k, List.drop_zero, Nat.sub_zero, List.map_take]
  rw [← e]
  exact el_sl h h1 h2 hs
theorem ev_isiL {p : Addr} {xs : List V} (ha : Ev ta σ H (.ref p)) (h : H p = some (.lst xs)) : Ev (tCB (rIsi K) (tCons ta (tCons (tC (.ty "list")) tNil))) σ H (.bl true) := ev_isi (T := "list") ha (.base (.lst h)) (by decide +kernel) fun _ e => .base (.lst (e _ _ h))
theorem ev_isiS {l : Str} (ha : Ev ta σ H (.str l)) : Ev (tCB (rIsi K) (tCons ta (tCons (tC (.ty "str")) tNil))) σ H (.bl true) := ev_isi (T := "str") ha (.base (.str l)) (by decide +kernel) fun _ _ => .base (.str l)
theorem rv_ge {a b : Int} : RV (rI0 fun i j => .bl (decide (j ≤ i))) (.int a) (.int b) H (.bl (decide (b ≤ a))) := rv_I0
theorem rv_gt {a b : Int} : RV (rI0 fun i j => .bl (decide (j < i))) (.int a) (.int b) H (.bl (decide (b < a))) := rv_I0
theorem rv_pow {i j : Int} (h : CPow i j) : RV (rI CPow fun i j => .int (i ^ j.toNat)) (.int i) (.int j) H (.int (i ^ j.toNat)) := rv_I h
end
theorem joinL_snoc (s x : List Nat) : ∀ {l : List (List Nat)}, l ≠ [] → TL.joinL s (l ++ [x]) = TL.joinL s l ++ (s ++ x)
  | [], h => absurd rfl h
  | [p], _ => rfl
  | p :: q :: r, _ => by
    show p ++ (s ++ TL.joinL s ((q :: r) ++ [x])) = (p ++ (s ++ TL.joinL s (q :: r))) ++ (s ++ x)
    rw [joinL_snoc s x (List.cons_ne_nil q r)]
    simp only [List.append_assoc]
theorem joinL_ne {s p : List Nat} {r : List (List Nat)} (h : p ≠ []) : TL.joinL s (p :: r) ≠ [] := by
  cases r with
  | nil => exact h
  | cons q r =>
    intro z
    have : p ++ (s ++ TL.joinL s (q :: r)) = [] := z
    exact h (List.append_eq_nil_iff.mp this).1
theorem joinL_len (s : List Nat) : ∀ l : List (List Nat), (TL.joinL s l).length ≤ (l.map (·.length)).sum + l.length * s.length
  | [] => Nat.zero_le _
  | [p] => by
    show p.length ≤ p.length + 0 + 1 * s.length
    omega
  | p :: q :: r => by
    have ih := joinL_len s (q :: r)
    show (p ++ (s ++ TL.joinL s (q :: r))).length ≤ p.length + ((q :: r).map (·.length)).sum + ((q :: r).length + 1) * s.length
    rw [List.length_append, List.length_append, Nat.succ_mul]
    omega
theorem sum_le {l : List (List Nat)} {n : Nat} (h : ∀ p ∈ l, p.length ≤ n) : (l.map (·.length)).sum ≤ l.length * n := by
  induction l with
  | nil => simp
  | cons p r ih =>
    have h1 := h p List.mem_cons_self
    have h2 := ih fun q hq => h q (List.mem_cons_of_mem _ hq)
    rw [List.map_cons, List.sum_cons, List.length_cons, Nat.succ_mul]
    omega
theorem at_one {l : List Nat} {c i : Nat} : StrLaws.At (S l) (S [c]) (S l).length i ↔ l[i]? = some c := by
  rw [TL.at_iff (x := S l) (y := S [c]) (List.cons_ne_nil _ _)]
  show ((l.drop i).take 1 == [c]) = true ↔ l[i]? = some c
  rw [beq_iff_eq]
  constructor
  · intro h
    have e := congrArg (fun z : List Nat => z[0]?) h
    simpa using e
  · intro h
    obtain ⟨hi, e⟩ := List.getElem?_eq_some_iff.mp h
    rw [List.drop_eq_getElem_cons hi, e]
    rfl
theorem rpart_none {l : List Nat} {c : Nat} (h : c ∉ l) : (Txt.rpartition (S l) (S [c])).1 = S [] := by
  unfold Txt.rpartition
  rcases StrLaws.last_spec (S l) (S [c]) with ⟨h0, hn⟩ | ⟨i, h0, hi, hn⟩
  · rw [h0]
    rfl
  · exact absurd (List.mem_of_getElem? (at_one.mp hi)) h
theorem rpart_some {p q : List Nat} {c : Nat} (h : c ∉ q) : (Txt.rpartition (S (p ++ c :: q)) (S [c])).1 = S p := by
  have hp : (p ++ c :: q)[p.length]? = some c := by simp
  unfold Txt.rpartition
  rcases StrLaws.last_spec (S (p ++ c :: q)) (S [c]) with ⟨h0, hn⟩ | ⟨i, h0, hi, hn⟩
  · exact absurd (at_one.mpr hp) (hn _)
  · rw [h0]
    have e : i = p.length := by
      have h1 := at_one.mp hi
      rcases Nat.lt_trichotomy i p.length with z | z | z
      · exact absurd (at_one.mpr hp) (hn _ z)
      · exact z
      · rw [List.getElem?_append_right (by omega)] at h1
        obtain ⟨k, hk⟩ : ∃ k, i - p.length = k + 1 := ⟨i - p.length - 1, by omega⟩
        rw [hk, List.getElem?_cons_succ] at h1
        exact absurd (List.mem_of_getElem? h1) h
    subst e
    show PySem.Builtin.Str.strSub (S (p ++ c :: q)) 0 p.length = S p
    refine TL.ext_tl ?_
    rw [TL.tl_strSub]
    show ((p ++ c :: q).drop 0).take (p.length - 0) = p
    simp
end Kn
/-! ### rules that name the written part: for the elements of a comprehension -/
namespace Kn
open PySem PySem.Spec PyProof.Rows L2 Evl SX
section
variable {X : Cx} {K : PySem.W.Frag}
theorem sl_listK (h : X.K = K) : SlR X (rSlL K) := by subst h; exact sl_list
theorem sl_tupK (h : X.K = K) : SlR X (rSlT K) := by subst h; exact sl_tup
theorem ix_listK (h : X.K = K) : IxR X (rIxL K) := by subst h; exact ix_list
theorem ix_tupK (h : X.K = K) : IxR X (rIxT K) := by subst h; exact ix_tup
theorem cr_lenSeqK (h : X.K = K) : CallR X (.builtin "len") (rLenS K) := by subst h; exact cr_lenSeq
theorem cr_isiK (h : X.K = K) : CallR X (.builtin "isinstance") (rIsi K) := by subst h; exact cr_isi
theorem cr_allK (h : X.K = K) (hc : X.calm = true) : CallR X (.builtin "all") (rAll K) := by subst h; exact cr_all hc
theorem op_in_seqK (h : X.K = K) : OpR X (compareOp .In) (rIn K false) := by subst h; exact op_in_seq
theorem op_notIn_seqK (h : X.K = K) : OpR X (compareOp .NotIn) (rIn K true) := by subst h; exact op_notIn_seq
theorem pe_joinK {e : Expr} {to te : TE} (hK : X.K = K) (h : PE X e (tM1 (fun x xs H Q => ∃ a p, ∃ ys : List Str, x = .str a ∧ xs = [.ref p] ∧ (SqL X.K H p (ys.map V.str) ∨ SqT X.K H p (ys.map V.str)) ∧ (ys.map (·.length)).sum + ys.length * a.length ≤ 16777216 ∧ Q (.str (Txt.join a ys)) H) to te)) : PE X e (tM1 (rJoin K) to te) := by
  subst hK
  exact h
end
end Kn
/-! ### texts: split, count, startswith, replace; loops over signs -/
namespace Kn
open PySem PySem.Spec PyProof.Rows L2 Evl SX
def rSplit : V → List V → Hp → VK → Prop := fun x xs H Q => ∃ a b, x = .str a ∧ xs = [.str b] ∧ (b.length == 0) = false ∧ a.length + 2 ≤ sizeLine ∧ rNewStrs (Txt.split a b) H Q
theorem mt_split {X : Cx} : MtR X "str.split" rSplit := L2.mt_split
def rCount : V → List V → Hp → VK → Prop := fun x xs H Q => ∃ a b, x = .str a ∧ xs = [.str b] ∧ Q (.int (Txt.count a b)) H
theorem mt_count {X : Cx} : MtR X "str.count" rCount := L2.mt_count
def rStarts : V → List V → Hp → VK → Prop := fun x xs H Q => ∃ a b, x = .str a ∧ xs = [.str b] ∧ Q (.bl (Txt.startswith a b)) H
theorem mt_startswith {X : Cx} : MtR X "str.startswith" rStarts := L2.mt_startswith
def rEnds : V → List V → Hp → VK → Prop := fun x xs H Q => ∃ a b, x = .str a ∧ xs = [.str b] ∧ Q (.bl (Txt.endswith a b)) H
theorem mt_endswith {X : Cx} : MtR X "str.endswith" rEnds := L2.mt_endswith
/-- l cut at each c -/
def cut1 (c : Nat) (l : List Nat) : List (List Nat) := TL.spl [c] 0 [] l
theorem starts_one {l : List Nat} {c : Nat} : Txt.startswith (S l) (S [c]) = decide (l[0]? = some c) := by
  have h : StrLaws.At (S l) (S [c]) (S l).length 0 ↔ l[0]? = some c := at_one
  unfold Txt.startswith
  rw [Bool.eq_iff_iff, Bool.and_eq_true, decide_eq_true_eq, decide_eq_true_eq]
  exact h
theorem count_one {l : List Nat} {c : Nat} : Txt.count (S l) (S [c]) = cnt c l := count_is (S l) c
theorem spl_map {c : Nat} {f : Nat → Nat} (hc : ∀ d, f d = c ↔ d = c) : ∀ (l acc : List Nat), TL.spl [c] 0 (acc.map f) (l.map f) = (TL.spl [c] 0 acc l).map (List.map f)
  | [], acc => rfl
  | d :: r, acc => by
    by_cases e : d = c
    · have h1 : TL.pre [c] (d :: r) = true := by
        subst e
        exact TL.pre_self [d] r
      have h2 : TL.pre [c] (f d :: r.map f) = true := by
        have e2 := (hc d).mpr e
        rw [e2]
        exact TL.pre_self [c] (r.map f)
      rw [List.map_cons, TL.spl_hit h1, TL.spl_hit h2, List.map_cons]
      exact congrArg (fun z => acc.map f :: z) (spl_map hc r [])
    · have h1 : TL.pre [c] (d :: r) = false := TL.pre_of_head [] r e
      have h2 : TL.pre [c] (f d :: r.map f) = false := TL.pre_of_head [] _ fun z => e ((hc d).mp z)
      rw [List.map_cons, TL.spl_miss h1, TL.spl_miss h2, ← spl_map hc r (acc ++ [d]), List.map_append]
      rfl
theorem cut1_map {c : Nat} {f : Nat → Nat} (hc : ∀ d, f d = c ↔ d = c) (l : List Nat) : cut1 c (l.map f) = (cut1 c l).map (List.map f) := spl_map hc l []
/-- each sign but c is in a part -/
theorem spl_mem {c d : Nat} (hd : d ≠ c) : ∀ (l acc : List Nat), d ∈ acc ∨ d ∈ l → ∃ p ∈ TL.spl [c] 0 acc l, d ∈ p
  | [], acc, h => by
    rcases h with h | h
    · exact ⟨acc, List.mem_cons_self, h⟩
    · exact nomatch h
  | e :: r, acc, h => by
    by_cases ec : e = c
    · have h1 : TL.pre [c] (e :: r) = true := by
        subst ec
        exact TL.pre_self [e] r
      rw [TL.spl_hit h1]
      rcases h with h | h
      · exact ⟨acc, List.mem_cons_self, h⟩
      · rcases List.mem_cons.mp h with z | z
        · exact absurd (z.trans ec) hd
        · obtain ⟨p, hp, hm⟩ := spl_mem hd r [] (.inr z)
          exact ⟨p, List.mem_cons_of_mem _ hp, hm⟩
    · rw [TL.spl_miss (TL.pre_of_head [] r ec)]
      refine spl_mem hd r (acc ++ [e]) ?_
      rcases h with h | h
      · exact .inl (List.mem_append_left _ h)
      · rcases List.mem_cons.mp h with z | z
        · exact .inl (List.mem_append_right _ (by rw [z]; exact List.mem_cons_self))
        · exact .inr z
theorem cut1_mem {c d : Nat} (hd : d ≠ c) {l : List Nat} (h : d ∈ l) : ∃ p ∈ cut1 c l, d ∈ p := spl_mem hd l [] (.inr h)
theorem spl_bound (c : Nat) : ∀ (l acc : List Nat), (TL.spl [c] 0 acc l).length ≤ l.length + 1 ∧ ∀ p ∈ TL.spl [c] 0 acc l, p.length ≤ acc.length + l.length
  | [], acc => ⟨Nat.le_refl _, fun p hp => by rw [List.mem_singleton.mp hp]; exact Nat.le_add_right _ _⟩
  | e :: r, acc => by
    by_cases ec : e = c
    · have h1 : TL.pre [c] (e :: r) = true := by
        subst ec
        exact TL.pre_self [e] r
      have ih := spl_bound c r []
      rw [TL.spl_hit h1]
      refine ⟨Nat.succ_le_succ ih.1, fun p hp => ?_⟩
      rcases List.mem_cons.mp hp with z | z
      · rw [z]
        omega
      · have := ih.2 p z
        rw [List.length_cons]
        simp at this
        omega
    · have ih := spl_bound c r (acc ++ [e])
      rw [TL.spl_miss (TL.pre_of_head [] r ec)]
      refine ⟨by have := ih.1; rw [List.length_cons]; omega, fun p hp => ?_⟩
      have := ih.2 p hp
      rw [List.length_append] at this
      rw [List.length_cons]
      simp at this
      omega
theorem cut1_len (c : Nat) (l : List Nat) : (cut1 c l).length ≤ l.length + 1 := (spl_bound c l []).1
theorem cut1_part {c : Nat} {l p : List Nat} (h : p ∈ cut1 c l) : p.length ≤ l.length := by
  have := (spl_bound c l []).2 p h
  simpa using this
theorem repl_one {c d : Nat} : ∀ l : List Nat, StrLaws.replL [c] [d] l = l.map fun e => if e = c then d else e
  | [] => StrLaws.replL_nil
  | e :: r => by
    by_cases h : e = c
    · subst h
      rw [StrLaws.replL_hit (List.cons_ne_nil _ _) rfl, List.map_cons, if_pos rfl, ← repl_one r]
      rfl
    · rw [StrLaws.replL_miss (y := [c]) (show ¬ (e :: r).take [c].length = [c] from fun z => h (List.cons.inj (show e :: r.take 0 = [c] from z)).1), List.map_cons, if_neg h, repl_one r]
theorem replace_S {l : List Nat} {c d : Nat} : Txt.replace (S l) (S [c]) (S [d]) = S (l.map fun e => if e = c then d else e) := by
  refine TL.ext_tl ?_
  show (Txt.replace (S l) (S [c]) (S [d])).cps.toList = _
  exact (StrLaws.replace_list (show 1 ≤ (S [c]).length from Nat.le_refl 1)).trans (repl_one l)
section
variable {K : PySem.W.Frag} {σ : L2.St} {H H' : Hp} {ta tb te tc : TE} {t u : TT} {x y z v : V} {D : Ends} {tu tz : TS}
theorem el_split {l : List Nat} {c : Nat} (ha : Ev ta σ H (.str (S l))) (hb : Ev tb σ H (.str (S [c]))) (hc : c < 256) (hl : l.length ≤ 90000) : EvL (tM1 rSplit ta tb) σ H ((cut1 c l).map fun p => V.str (S p)) := fun H1 e Q q =>
  ha H1 e _ fun H2 e2 => ⟨⟨_, rfl⟩, hb H2 (e.trans e2) _ fun H3 e3 => ⟨S l, S [c], rfl, rfl, rfl, sz_of (by rw [S_len]; omega), fun p hp => by
    rw [SX.split_S (List.cons_ne_nil _ _) (by simp [hc]), List.map_map]
    exact q p _ (fresh_back (e2.trans e3) hp) ((e2.trans e3).trans (Ex.new hp)) upd_same⟩⟩
theorem ev_count {l : List Nat} {c : Nat} (ha : Ev ta σ H (.str (S l))) (hb : Ev tb σ H (.str (S [c]))) : Ev (tM1 rCount ta tb) σ H (.int (cnt c l)) := fun H1 e Q q =>
  ha H1 e _ fun H2 e2 => ⟨⟨_, rfl⟩, hb H2 (e.trans e2) _ fun H3 e3 => ⟨S l, S [c], rfl, rfl, by
    rw [count_one]
    exact q H3 (e2.trans e3)⟩⟩
theorem ev_starts {l : List Nat} {c : Nat} (ha : Ev ta σ H (.str (S l))) (hb : Ev tb σ H (.str (S [c]))) : Ev (tM1 rStarts ta tb) σ H (.bl (decide (l[0]? = some c))) := fun H1 e Q q =>
  ha H1 e _ fun H2 e2 => ⟨⟨_, rfl⟩, hb H2 (e.trans e2) _ fun H3 e3 => ⟨S l, S [c], rfl, rfl, by
    rw [starts_one]
    exact q H3 (e2.trans e3)⟩⟩
theorem ev_replC {l : List Nat} {s1 s2 : Str} {c d : Nat} (ha : Ev ta σ H (.str (S l))) (h1 : s1 = S [c]) (h2 : s2 = S [d]) (hl : l.length ≤ 100000) : Ev (CwR.tReplC ta s1 s2) σ H (.str (S (l.map fun e => if e = c then d else e))) := fun H1 e Q q => by
  subst h1 h2
  refine ha H1 e _ fun H2 e2 => ⟨S l, rfl, ?_, ?_⟩
  · rw [S_len, S_len]
    show l.length + (l.length + 1) * 1 ≤ 16777216
    omega
  · rw [replace_S]
    exact q H2 e2
theorem s_forS {l : List Nat} {ts : TE} {j : Nat} (h : Ev ts σ H (.str (S l))) (Pv : Nat → L2.St → Hp → Prop) (h0 : ∀ H1, Ex H H1 → Pv 0 σ H1)
    (hs : ∀ (i c : Nat) σ' H', l[i]? = some c → Pv i σ' H' → tu { D with nx := Pv (i + 1), ct := Pv (i + 1), bk := D.nx } (σ'.set j (some (.str (S [c])))) H') (hd : ∀ σ' H', Pv l.length σ' H' → D.nx σ' H') : tFor (iStr ts) (gName j) tu D σ H :=
  h H (Ex.refl H) _ fun H1 e => ⟨S l, rfl, for_it walk_str Pv (h0 H1 e) (fun _ _ _ _ _ => trivial) (fun i x σ' H2 H3 hi p y => by
    obtain ⟨rfl, c, hc, rfl⟩ := y
    have hc' : l[i]? = some c := by simpa [S] using hc
    exact hs i c σ' _ hc' p) (fun σ' H2 p => by
    have hl : (S l).cps.size = l.length := by simp [S]
    rw [hl] at p
    exact hd σ' H2 p)⟩
theorem q_forS {l : List Nat} {ts : TE} {j : Nat} (h : Ev ts σ H (.str (S l))) (Pv : Nat → L2.St → Hp → Prop) (h0 : ∀ H1, Ex H H1 → Pv 0 σ H1)
    (hs : ∀ (i c : Nat) σ' H', l[i]? = some c → Pv i σ' H' → tu { D with nx := Pv (i + 1), ct := Pv (i + 1), bk := tz D } (σ'.set j (some (.str (S [c])))) H') (hd : ∀ σ' H', Pv l.length σ' H' → tz D σ' H') : tSeq (tFor (iStr ts) (gName j) tu) tz D σ H :=
  s_forS (D := { D with nx := tz D }) h Pv h0 hs hd
end
/-! ### an expression behind which a token is out -/
section
variable {X : Cx} {a b e o : Expr} {ta tb te to : TE} {pos apos : Pos}
def PEb (X : Cx) (e : Expr) (t : TE) : Prop := ∀ (pins : List (Addr × Obj)) (s : Shared) (σ : L2.St) (H : Hp) (Q : VK), Inv X pins σ H s → t σ H Q → wpAny (model X.prog X.w) X.A (eval e X.env) (fun v s1 => 1 ≤ s1.toks ∧ EP X pins σ Q v s1) X.xe s
theorem keep_tok {α : Type} {t : Sem α} {Q : α → Shared → Prop} {E : Value → Shared → Prop} {P : Program} {w : World} {A : Around} {s : Shared} (h0 : 1 ≤ s.toks) (h : wpAny (model P w) A t Q E s) : wpAny (model P w) A t (fun a s' => 1 ≤ s'.toks ∧ Q a s') E s :=
  wpAny_mono (PySem.wpAny_toks h) (fun _ _ q => ⟨Nat.le_trans h0 q.1, q.2⟩) fun _ _ z => z.2
theorem peb_str {x : Str} {j : Nat} : PEb X (.Constant (.str x) j pos) (tC (.str x)) := fun _ s _ H _ I h => Calls.Constant_str ⟨by show 1 ≤ s.toks + 1; omega, .str x, H, I.tok _, ⟨_, rfl⟩, h⟩
theorem peb_m1 {id : String} {name : Str} {r : V → List V → Hp → VK → Prop} (slot : Slot "str" name id) (ty : typeOf (.builtin id) = pure (.type "method_descriptor")) (rule : MtR X id r) (ho : PE X o to) (he : PEb X e te)
    (hs : starEach [e] X.env = [(false, eval e X.env)] := by rfl) (hbase : attributeBase o name X.env (eval o X.env) = eval o X.env := by rfl) (hline : (apos.endLine == pos.line) = true := by rfl) :
    PEb X (.Call (.Attribute o name apos) [e] [] pos) (tM1 r to te) := by
  intro pins s σ H Q I h
  refine PySem.Call_method1 hbase hs hline (thn (ho.run pins s σ H _ I h) fun v s1 ⟨x, H1, I1, r1, q1⟩ => ?_)
  obtain ⟨⟨a, rfl⟩, q1⟩ := q1
  obtain ⟨t, rfl⟩ := _root_.id r1
  refine ⟨"str", _, F.plainAttrs_str, slot, ty, typeIs_str _ _ _, (fun _ e => nomatch e), Calls.callWith_builtin rfl (Calls.evalArgs_plain (Calls.spliced_cons ?_))⟩
  exact thn (he pins s1 σ H1 _ I1 q1) fun u s2 ⟨h2, y, H2, I2, r2, q2⟩ => Calls.spliced_nil (keep_tok h2 (rule pins s2 σ H2 _ [y] _ [u] Q I2 r1 (.cons r2 .nil) q2))
theorem peb_cmpR {op : CmpOp} {r : R2} (ho : OpR X (compareOp op) r) (ha : PEb X a ta) (hb : PE X b tb) (hm : behindInMarks op b = false) : PEb X (.Compare a [op] [b] pos) (tOp r ta tb) := by
  intro pins s σ H Q I h
  refine wpAny_Compare1 (thn (ha pins s σ H _ I h) fun v s1 ⟨h1, x, H1, I1, r1, q1⟩ => ?_) hm
  refine thn (keep_tok h1 (hb.run pins s1 σ H1 _ I1 q1)) fun u s2 ⟨h2, y, H2, I2, r2, q2⟩ => ?_
  exact keep_tok h2 (ho pins s2 σ H2 x y v u Q I2 r1 r2 q2)
theorem pe_andB (ha : PEb X a ta) (hb : L2.PET X b tb) : PE X (.BoolOp .And [a, b] pos) (tAndV ta tb) := by
  refine ⟨fun pins s σ H Q I h => ?_⟩
  refine BoolOp_and (thn (ha pins s σ H _ I h) fun v s1 ⟨h1, x, H1, I1, r1, q1⟩ => ?_)
  obtain ⟨c, rfl, q1⟩ := q1
  cases r1
  refine wpAny_truthy_bool ?_
  cases c with
  | true => exact BoolOp_one (hb pins s1 σ H1 Q h1 I1 q1)
  | false => exact ⟨.bl false, H1, I1, rfl, q1⟩
theorem pet_cl {k j : Nat} {x : Str} {sp : Sp} {p : Pos} {es : List Expr} {t : TA} (c : Cl X.prog X.w X.K X.mg X.base k x sp) (hr : Room j X.A) (hk : k ≤ j) (hg : Gl X x) (ha : L2.PAT X (e :: es) t)
    (hdb : (x == ("__debug__" : Str)) = false := by decide) (he : starEach (e :: es) X.env = (false, eval e X.env) :: starEach es X.env := by rfl) (hpl : (backTo pos (starEach es X.env)).any (·.1) = false := by rfl) :
    L2.PET X (.Call (.Name x p) (e :: es) [] pos) (tCall sp [] E0 t) := by
  intro pins s σ H Q h0 I h
  obtain ⟨f, fd, ps, F, hm, kp, b⟩ := c.ex
  refine wpAny_Call_Name_kw (ld_glob I hg hm ?_ hdb)
  refine PySem.W.callWith_K (h₀ := X.base) I.ok.mod.kin kp (thn (ha pos pins s σ H _ h0 I h) fun us s1 ⟨vs, H1, I1, r, q⟩ => ⟨I1.kIn, ?_⟩) he hpl
  exact run_fn F (hr.mono hk) b .nil pass0 I1 r q
end
end Kn
/-! ### methods, classes, dicts with text keys -/
namespace Kn
open PySem PySem.Spec PyProof.Rows L2 Evl SX
structure Mt (P : Program) (w : World) (K : PySem.W.Frag) (mg : Str → Option Value) (base : Heap) (k : Nat) (C : Addr) (m : Str) (sp : Sp) : Prop where
  ex : ∃ (f : Addr) (fd : FuncData) (ps : List Str), Cls K C ∧ Meth K C m f ∧ FnOk P w K mg base CX0 k f fd ps sp ∧ Binds K fd ps []
structure Mkr (P : Program) (w : World) (K : PySem.W.Frag) (mg : Str → Option Value) (base : Heap) (k : Nat) (x : Str) (C : Addr) (sp : Sp) : Prop where
  ex : ∃ (f : Addr) (fd : FuncData) (ps : List Str), Mk K C f ∧ FnOk P w K mg base CX0 k f fd ps sp ∧ mg x = some (.ref C) ∧ Binds K fd ps []
section
variable {X : Cx} {k j : Nat} {C : Addr} {x m : Str} {sp : Sp} {p pos apos : Pos} {e o : Expr} {es : List Expr} {ta : TE} {t : TA}
theorem pe_mt {pl : Sem Bool} (c : Mt X.prog X.w X.K X.mg X.base k C m sp) (hr : Room j X.A) (hk : k ≤ j) (he : PE X o ta) (ha : PA X (e :: es) t)
    (hst : starEach (e :: es) X.env = (false, eval e X.env) :: starEach es X.env := by rfl) (hpl : (backTo pos (starEach es X.env)).any (·.1) = false := by rfl)
    (ht : eval (.Call (.Attribute o m apos) (e :: es) [] pos) X.env = (do
      let ov ← eval o X.env
      standAt apos.atName
      let (f, first) ← holding [ov] (getMethod ov m pl)
      callWith pos f first (backTo pos (starEach (e :: es) X.env)) (backToKw pos (keywordEach [] X.env))) := by rfl) :
    PE X (.Call (.Attribute o m apos) (e :: es) [] pos) (tMeth C m sp [] E0 ta t) := by
  obtain ⟨f, fd, ps, hc, hm, F, b⟩ := c.ex
  exact pe_meth (pl := pl) he hc hm F (hr.mono hk) b .nil pass0 ha hst hpl ht
theorem pe_mt0 {pl : Sem Bool} (c : Mt X.prog X.w X.K X.mg X.base k C m sp) (hr : Room j X.A) (hk : k ≤ j) (he : PE X o ta)
    (ht : eval (.Call (.Attribute o m apos) [] [] pos) X.env = (do
      let ov ← eval o X.env
      standAt apos.atName
      let (f, first) ← holding [ov] (getMethod ov m pl)
      callWith pos f first (backTo pos (starEach [] X.env)) (backToKw pos (keywordEach [] X.env))) := by rfl) :
    PE X (.Call (.Attribute o m apos) [] [] pos) (tMeth C m sp [] E0 ta tNil) := by
  obtain ⟨f, fd, ps, hc, hm, F, b⟩ := c.ex
  exact pe_meth0 (pl := pl) he hc hm F (hr.mono hk) b .nil pass0 ht
theorem pe_mkr0 (c : Mkr X.prog X.w X.K X.mg X.base k x C sp) (hr : Room j X.A) (hk : k + 1 ≤ j) (hg : Gl X x) (hdb : (x == ("__debug__" : Str)) = false := by decide) :
    PE X (.Call (.Name x p) [] [] pos) (tMake C sp [] E0 tNil) := by
  obtain ⟨f, fd, ps, M, F, hm, b⟩ := c.ex
  exact pe_make0 M F (hr.mono hk) hg hm b .nil pass0 hdb
def rStrInt : List V → Hp → VK → Prop := fun xs H Q => ∃ i, xs = [.int i] ∧ i.natAbs.log2 < 1920 ∧ Q (.str (toString i)) H
theorem cr_strInt : CallR X (.type "str") rStrInt := call_str_int
def rSortD (K : PySem.W.Frag) : List V → Hp → VK → Prop := fun xs H Q => ∃ (a : Addr) (kvs : List (Key × V)) (ks : List Str), xs = [.ref a] ∧ Rd H a (.dK kvs) ∧ kvs.map (·.1) = ks.map Sum.inr ∧ ks.length < 64 ∧ ∀ ys p, ys.Perm ks → sortedS ys = true → H p = none → Q (.ref p) (upd H p (.lst (ys.map V.str)))
theorem cr_sortD (h : X.calm = true) : CallR X (.builtin "sorted") (rSortD X.K) := call_sortedD h
def rDictP (K : PySem.W.Frag) : List V → Hp → VK → Prop := fun xs H Q => ∃ (a : Addr) (ps : List Addr) (kvs : List (Key × V)), xs = [.ref a] ∧ SqL K H a (ps.map V.ref) ∧ Paired (fun p kv => SqT K H p [kV kv.1, kv.2]) ps kvs ∧ ∀ p, H p = none → Q (.ref p) (upd H p (.dK (mergeK [] kvs)))
theorem cr_dictP (h : X.calm = true) : CallR X (.type "dict") (rDictP X.K) := call_dictP h
end
section
variable {K : PySem.W.Frag} {σ : L2.St} {H H' : Hp} {ta tb td ty te tc tv : TE} {t u : TT} {x y z v : V} {D : Ends} {tu tw tz : TS} {C p d dx : Addr} {fs : List (Str × V)} {kvs : List (Key × V)} {k : List Nat}
theorem ev_fld {f : Str} (ha : Ev ta σ H (.ref p)) (ho : H p = some (.ins C dx fs)) (hc : Cls K C) (hn : NoAttr K C f) (hl : fs.lookup f = some v) : Ev (tFld K ta f) σ H v := fun H1 e Q q =>
  ha H1 e _ fun H2 e2 => ⟨p, C, dx, fs, v, rfl, (e.trans e2) _ _ ho, hc, hn, hl, q H2 e2⟩
theorem ev_meth {m : Str} {sp : Sp} {E : XK} {t : TA} {vs : List V} (ha : Ev ta σ H (.ref p)) (ho : H p = some (.ins C dx fs)) (hm : fs.lookup m = none) (h : EvA t σ H vs) (hs : SpV sp (.ref p :: vs) H z) : Ev (tMeth C m sp [] E ta t) σ H z := fun H1 e Q q =>
  ha H1 e _ fun H2 e2 => ⟨p, dx, fs, rfl, (e.trans e2) _ _ ho, hm, h H2 (e.trans e2) _ fun H3 e3 => by
    rw [List.append_nil]
    exact hs H3 ((e.trans e2).trans e3) Q (fun H4 e4 => q H4 ((e2.trans e3).trans e4)) E⟩
theorem ev_dget (h1 : Ev td σ H (.ref d)) (h2 : Ev ty σ H (.str (S k))) (hd : H d = some (.dK kvs)) (hv : valV kvs (Sum.inr (S k)) = some v) : Ev (tDGet td ty) σ H v := fun H1 e Q q =>
  h1 H1 e _ fun H2 e2 => h2 H2 (e.trans e2) _ fun H3 e3 => ⟨d, v, rfl, by
    have g := DGet.k (k := (Sum.inr (S k) : Key)) (((e.trans e2).trans e3) _ _ hd)
    rw [hv] at g
    exact g, q H3 (e2.trans e3)⟩
theorem ev_dget1 (h1 : Ev td σ H (.ref d)) (h2 : Ev ty σ H (.str (S k))) (hd : H d = some (.dK kvs)) : Ev (tDGet1 td ty) σ H ((valV kvs (Sum.inr (S k))).getD .non) := fun H1 e Q q =>
  h1 H1 e _ fun H2 e2 => ⟨d, rfl, .inl ⟨kvs, .inl ((e.trans e2) _ _ hd)⟩, h2 H2 (e.trans e2) _ fun H3 e3 => ⟨_, DGet.k (k := (Sum.inr (S k) : Key)) (((e.trans e2).trans e3) _ _ hd), q H3 (e2.trans e3)⟩⟩
theorem et_din (h2 : Ev ty σ H (.str (S k))) (h1 : Ev td σ H (.ref d)) (hd : H d = some (.dK kvs)) : EvT (tB (tDIn ty td)) σ H (valV kvs (Sum.inr (S k))).isSome := fun H1 e Q q =>
  h2 H1 e _ fun H2 e2 => h1 H2 (e.trans e2) _ fun H3 e3 => ⟨d, _, rfl, DGet.k (k := (Sum.inr (S k) : Key)) (((e.trans e2).trans e3) _ _ hd), _, rfl, q H3 (e2.trans e3)⟩
/-- d[k] = v -/
theorem s_dput (hv : Ev tv σ H v) (h1 : ∀ H1, Ex H H1 → Ev td σ H1 (.ref d)) (h2 : ∀ H1, Ex H H1 → Ev ty σ H1 (.str (S k))) (hd : H d = some (.dK kvs)) (hl : kvs.length < 100000) (q : ∀ H1, Ex H H1 → D.nx σ (upd H1 d (.dK (putK kvs (Sum.inr (S k)) v)))) : sDPut td ty tv D σ H :=
  hv H (Ex.refl H) _ fun H1 e1 => h1 H1 e1 H1 (Ex.refl H1) _ fun H2 e2 => h2 H2 (e1.trans e2) H2 (Ex.refl H2) _ fun H3 e3 => ⟨d, _, rfl, DPut.k (k := (Sum.inr (S k) : Key)) (((e1.trans e2).trans e3) _ _ hd) (sz_lt hl), q H3 ((e1.trans e2).trans e3)⟩
/-- d[k] = (a, ..), a new tuple -/
theorem s_dputU {xs : List V} (hv : EvU tv σ H xs) (h1 : ∀ H1, Ex H H1 → Ev td σ H1 (.ref d)) (h2 : ∀ H1, Ex H H1 → Ev ty σ H1 (.str (S k))) (hd : H d = some (.dK kvs)) (hl : kvs.length < 100000) (q : ∀ r H1, H r = none → Ex H H1 → H1 r = some (.tup xs) → D.nx σ (upd H1 d (.dK (putK kvs (Sum.inr (S k)) (.ref r))))) : sDPut td ty tv D σ H :=
  hv H (Ex.refl H) _ fun r H1 nr e1 hr => h1 H1 e1 H1 (Ex.refl H1) _ fun H2 e2 => h2 H2 (e1.trans e2) H2 (Ex.refl H2) _ fun H3 e3 => ⟨d, _, rfl, DPut.k (k := (Sum.inr (S k) : Key)) (((e1.trans e2).trans e3) _ _ hd) (sz_lt hl), q r H3 nr ((e1.trans e2).trans e3) (e3 _ _ (e2 _ _ hr))⟩
theorem et_isN (ha : Ev ta σ H x) : EvT (tTest (tOp rIsN ta (tC .non))) σ H (decide (x = .non)) := et_test (ev_op ha ev_c fun H1 _ Q q => ⟨rfl, q H1 (Ex.refl H1)⟩)
theorem et_notN (ha : Ev ta σ H x) : EvT (tTest (tOp rNotN ta (tC .non))) σ H (!decide (x = .non)) := et_test (ev_op ha ev_c fun H1 _ Q q => ⟨rfl, q H1 (Ex.refl H1)⟩)
theorem rv_ix0 {q : Addr} {xs : List V} {i : Nat} (h : SqT K H q xs) (hi : xs[i]? = some v) : RV (rIxT K) (.ref q) (.int (i : Int)) H v := rv_ixT h (atI_nat hi)
theorem ev_strInt {n : Nat} (ha : Ev ta σ H (.int (n : Int))) (hn : n < 1000) : Ev (tCB rStrInt (tCons ta tNil)) σ H (.str (S (TL.numL n))) := fun H1 e Q q =>
  ha H1 e _ fun H2 e2 => ⟨(n : Int), rfl, by
    rw [Int.natAbs_natCast]
    have : n.log2 < 10 := by
      by_cases h0 : n = 0
      · subst h0
        decide
      · exact (Nat.log2_lt h0).mpr (by omega)
    omega, by
    have z := num_S n
    rw [← z] at q
    exact q H2 e2⟩
end
end Kn
/-! ### lists of pairs with text keys: what a dict holds -/
namespace Kn
open PySem PySem.Spec PyProof.Rows L2 Evl SX
section
variable {α : Type}
def look (es : List (List Nat × α)) (k : List Nat) : Option α := (es.find? fun x => decide (x.1 = k)).map (·.2)
def put (es : List (List Nat × α)) (k : List Nat) (e : α) : List (List Nat × α) := if (es.any fun x => decide (x.1 = k)) = true then es.map (fun x => if x.1 = k then (x.1, e) else x) else es ++ [(k, e)]
theorem look_cons (x : List Nat × α) (r : List (List Nat × α)) (k : List Nat) : look (x :: r) k = if x.1 = k then some x.2 else look r k := by
  unfold look
  rw [List.find?_cons]
  by_cases h : x.1 = k
  · rw [decide_eq_true h, if_pos h]
    rfl
  · rw [decide_eq_false h, if_neg h]
theorem look_any (k : List Nat) : ∀ es : List (List Nat × α), (es.any fun x => decide (x.1 = k)) = (look es k).isSome
  | [] => rfl
  | x :: r => by
    rw [List.any_cons, look_cons, look_any k r]
    by_cases h : x.1 = k
    · rw [decide_eq_true h, if_pos h]
      rfl
    · rw [decide_eq_false h, if_neg h]
      rfl
theorem look_map (k j : List Nat) (e : α) : ∀ es : List (List Nat × α), look (es.map fun x => if x.1 = k then (x.1, e) else x) j = (look es j).map fun y => if j = k then e else y
  | [] => rfl
  | x :: r => by
    rw [List.map_cons, look_cons, look_cons, look_map k j e r]
    by_cases h : x.1 = k
    · rw [if_pos h]
      by_cases h2 : x.1 = j
      · rw [if_pos h2, if_pos h2, Option.map_some, if_pos (h2.symm.trans h)]
      · rw [if_neg h2, if_neg h2]
    · rw [if_neg h]
      by_cases h2 : x.1 = j
      · rw [if_pos h2, if_pos h2, Option.map_some, if_neg (fun z => h (h2.trans z))]
      · rw [if_neg h2, if_neg h2]
theorem look_snoc (k j : List Nat) (e : α) : ∀ es : List (List Nat × α), look es k = none → look (es ++ [(k, e)]) j = if j = k then some e else look es j
  | [], _ => by
    show look [(k, e)] j = _
    rw [look_cons]
    by_cases h : k = j
    · rw [if_pos h, if_pos h.symm]
    · rw [if_neg h, if_neg (fun z => h z.symm)]
  | x :: r, hn => by
    rw [look_cons] at hn
    by_cases h : x.1 = k
    · rw [if_pos h] at hn
      cases hn
    · rw [if_neg h] at hn
      rw [List.cons_append, look_cons, look_cons, look_snoc k j e r hn]
      by_cases h2 : x.1 = j
      · rw [if_pos h2, if_pos h2, if_neg (fun z => h (h2.trans z))]
      · rw [if_neg h2, if_neg h2]
theorem look_put (es : List (List Nat × α)) (k j : List Nat) (e : α) : look (put es k e) j = if j = k then some e else look es j := by
  unfold put
  rw [look_any]
  cases h : look es k with
  | none => exact look_snoc k j e es h
  | some y =>
    show look (es.map _) j = _
    rw [look_map]
    by_cases hj : j = k
    · subst hj
      rw [h, if_pos rfl, Option.map_some, if_pos rfl]
    · rw [if_neg hj]
      cases look es j with
      | none => rfl
      | some z => rw [Option.map_some, if_neg hj]
theorem put_len (es : List (List Nat × α)) (k : List Nat) (e : α) : (put es k e).length ≤ es.length + 1 := by
  unfold put
  split
  · rw [List.length_map]
    omega
  · rw [List.length_append]
    exact Nat.le_refl _
theorem look_mem {es : List (List Nat × α)} {k : List Nat} {e : α} (h : look es k = some e) : (k, e) ∈ es := by
  unfold look at h
  cases hf : es.find? fun x => decide (x.1 = k) with
  | none => rw [hf] at h; cases h
  | some x =>
    rw [hf] at h
    have h1 : x.1 = k := of_decide_eq_true (List.find?_some (p := fun x : List Nat × α => decide (x.1 = k)) hf)
    have h2 : x.2 = e := Option.some.inj h
    rw [← h1, ← h2]
    exact List.mem_of_find?_eq_some hf
theorem mem_look {es : List (List Nat × α)} {x : List Nat × α} (h : x ∈ es) : (look es x.1).isSome = true := by
  rw [← look_any, List.any_eq_true]
  exact ⟨x, h, decide_eq_true rfl⟩
theorem look_put_mem {es : List (List Nat × α)} {k : List Nat} {e : α} {x : List Nat × α} (h : x ∈ put es k e) : x ∈ es ∨ x.2 = e := by
  unfold put at h
  split at h
  · obtain ⟨y, hy, e2⟩ := List.mem_map.mp h
    by_cases h3 : y.1 = k
    · rw [if_pos h3] at e2
      exact .inr (by rw [← e2])
    · rw [if_neg h3] at e2
      exact .inl (by rw [← e2]; exact hy)
  · rcases List.mem_append.mp h with z | z
    · exact .inl z
    · exact .inr (by rw [List.mem_singleton.mp z])
end
/-- how pairs lie as a dict's: R tells which value stands for which thing -/
def Lies {α : Type} (R : α → V → Prop) (es : List (List Nat × α)) (kvs : List (Key × V)) : Prop := Paired (fun x (kv : Key × V) => kv.1 = Sum.inr (S x.1) ∧ R x.2 kv.2) es kvs
section
variable {α : Type} {R R' : α → V → Prop}
theorem key_eq {a b : List Nat} : ((Sum.inr (S a) : Key) = Sum.inr (S b)) ↔ a = b := ⟨fun h => S_inj (Sum.inr.inj h), fun h => by rw [h]⟩
theorem Lies.len {es : List (List Nat × α)} {kvs : List (Key × V)} (h : Lies R es kvs) : es.length = kvs.length := Paired.length h
theorem Lies.mono {es : List (List Nat × α)} {kvs : List (Key × V)} (h : Lies R es kvs) (f : ∀ a v, R a v → R' a v) : Lies R' es kvs := Paired.mapP h fun _ _ z => ⟨z.1, f _ _ z.2⟩
theorem Lies.look : ∀ {es : List (List Nat × α)} {kvs : List (Key × V)}, Lies R es kvs → ∀ k, (Kn.look es k = none ∧ valV kvs (Sum.inr (S k)) = none) ∨ ∃ e v, Kn.look es k = some e ∧ valV kvs (Sum.inr (S k)) = some v ∧ R e v
  | [], _, .nil, _ => .inl ⟨rfl, rfl⟩
  | x :: r, kv :: kvs, .cons h t, k => by
    rw [look_cons]
    by_cases hk : x.1 = k
    · rw [if_pos hk]
      refine .inr ⟨x.2, kv.2, rfl, valV_pos (h.1.trans (key_eq.mpr hk)), h.2⟩
    · rw [if_neg hk, valV_neg (fun z => hk (key_eq.mp (h.1.symm.trans z)))]
      exact Lies.look t k
theorem Lies.any {es : List (List Nat × α)} {kvs : List (Key × V)} (h : Lies R es kvs) (k : List Nat) : (kvs.any fun kv => decide (kv.1 = Sum.inr (S k))) = es.any fun x => decide (x.1 = k) := by
  rw [valV_any, look_any]
  rcases h.look k with ⟨a, b⟩ | ⟨e, v, a, b, _⟩
  · rw [a, b]
    rfl
  · rw [a, b]
    rfl
theorem Lies.mapped {k : List Nat} {e : α} {v : V} (hv : R e v) : ∀ {es : List (List Nat × α)} {kvs : List (Key × V)}, Lies R es kvs → Lies R (es.map fun x => if x.1 = k then (x.1, e) else x) (kvs.map fun kv => if kv.1 = (Sum.inr (S k) : Key) then (kv.1, v) else kv)
  | [], _, .nil => .nil
  | x :: r, kv :: kvs, .cons h t => by
    refine .cons ?_ (Lies.mapped hv t)
    by_cases hk : x.1 = k
    · dsimp only
      rw [if_pos hk, if_pos (h.1.trans (key_eq.mpr hk))]
      exact ⟨h.1, hv⟩
    · dsimp only
      rw [if_neg hk, if_neg (fun z => hk (key_eq.mp (h.1.symm.trans z)))]
      exact h
theorem Lies.snoc {k : List Nat} {e : α} {v : V} (hv : R e v) : ∀ {es : List (List Nat × α)} {kvs : List (Key × V)}, Lies R es kvs → Lies R (es ++ [(k, e)]) (kvs ++ [(Sum.inr (S k), v)])
  | [], _, .nil => .cons ⟨rfl, hv⟩ .nil
  | _ :: _, _ :: _, .cons h t => .cons h (Lies.snoc hv t)
theorem Lies.put {es : List (List Nat × α)} {kvs : List (Key × V)} {k : List Nat} {e : α} {v : V} (h : Lies R es kvs) (hv : R e v) : Lies R (Kn.put es k e) (putK kvs (Sum.inr (S k)) v) := by
  unfold Kn.put putK
  rw [h.any k]
  split
  · exact h.mapped hv
  · exact h.snoc hv
theorem Lies.keys : ∀ {es : List (List Nat × α)} {kvs : List (Key × V)}, Lies R es kvs → kvs.map (·.1) = (es.map fun x => S x.1).map Sum.inr
  | [], _, .nil => rfl
  | _ :: _, _ :: _, .cons h t => by
    rw [List.map_cons, List.map_cons, List.map_cons, h.1, Lies.keys t]
theorem Lies.get : ∀ {es : List (List Nat × α)} {kvs : List (Key × V)}, Lies R es kvs → ∀ (i : Nat) kv, kvs[i]? = some kv → ∃ x, es[i]? = some x ∧ kv.1 = Sum.inr (S x.1) ∧ R x.2 kv.2
  | [], _, .nil, _, _, h => by simp at h
  | x :: _, kv :: _, .cons h t, 0, kv', e => by
    cases Option.some.inj e
    exact ⟨x, rfl, h.1, h.2⟩
  | _ :: _, _ :: _, .cons h t, i + 1, kv', e => by
    obtain ⟨y, h1, h2⟩ := Lies.get t i kv' (by simpa using e)
    exact ⟨y, by simpa using h1, h2⟩
end
section
variable {K : PySem.W.Frag} {σ : L2.St} {H H' : Hp} {ta tb td ty te tc tv : TE} {t u : TT} {x y z v : V} {D : Ends} {tu tw tz : TS} {C p d dx : Addr} {fs : List (Str × V)} {kvs : List (Key × V)} {k : List Nat}
/-- y = [x for x in d.values() if t] -/
theorem s_lcVals {i j : Nat} {vs : List Nat} (f : Nat → Bool) (h1 : ∀ H1 : Hp, (∀ a o, a ≠ d → H a = some o → H1 a = some o) → Ev td σ H1 (.ref d)) (hd : H d = some (.dK kvs)) (hz : kvs.length ≤ 40000) (hw : ∀ x, wipe ((wipe σ vs).set j (some x)) vs = wipe σ vs)
    (ht : ∀ (i : Nat) (kv : Key × V) (H1 : Hp), (∀ a o, a ≠ d → H a = some o → H1 a = some o) → kvs[i]? = some kv → EvT t ((wipe σ vs).set j (some kv.2)) H1 (f i)) (he : ∀ (x : V) H1, Ev te ((wipe σ vs).set j (some x)) H1 x)
    (k : ∀ p H1, H p = none → Ex H H1 → H1 p = some (.lst (given kvs.length f fun i => (kvs[i]?.map (·.2)).getD .non)) → D.nx (σ.set i (some (.ref p))) H1) : tLock (tAsg (tLc (iVals td) (gName j) t te vs) (gName i)) D σ H := by
  refine ⟨d, .dK kvs, hd, trivial, fun od => ?_⟩
  have base : ∀ H1, Ex (upd H d (.frz od (.dK kvs))) H1 → ∀ a o, a ≠ d → H a = some o → H1 a = some o := fun H1 e a o ha h => e a o (by rw [upd_ne ha]; exact h)
  refine h1 _ (base _ (Ex.refl _)) _ (Ex.refl _) _ fun H1 e1 => ⟨d, od, kvs, rfl, e1 _ _ upd_same, fun Dl hD => ?_⟩
  refine lc_it walk_values (Cw H1 f (fun i => (kvs[i]?.map (·.2)).getD .non) Dl) ⟨hD, Ex.new hD, upd_same⟩ (fun i H2 _ q => q.2.1 _ _ (e1 _ _ upd_same)) (fun i x H2 H3 hi q y => ?_) (fun H2 q => ?_)
  · obtain ⟨rfl, ky, hy⟩ := y
    refine ⟨hw x, cw_turn q (by omega) (ht i (ky, x) H1 (base H1 e1) hy) (fun _ => ?_)⟩
    rw [hy]
    exact he x H1
  · have dn : H1 d = some (.frz od (.dK kvs)) := e1 _ _ upd_same
    have hd2 : H2 d = some (.frz od (.dK kvs)) := q.2.1 _ _ dn
    refine ⟨hd2, k Dl _ ?_ (fun a o h => ?_) ?_⟩
    · cases h : H Dl with
      | none => rfl
      | some o =>
        have ne : Dl ≠ d := fun z => by rw [z] at hD; rw [hD] at dn; cases dn
        have := e1 _ _ (by rw [upd_ne ne]; exact h)
        rw [hD] at this
        cases this
    · by_cases ha : a = d
      · rw [ha] at h ⊢
        rw [upd_same, ← hd, h]
      · rw [upd_ne ha]
        exact q.2.1 _ _ (base H1 e1 a o ha h)
    · have ne : Dl ≠ d := fun z => by rw [z] at hD; rw [hD] at dn; cases dn
      rw [upd_ne ne]
      exact q.2.2
/-- [(a, ..) for x in d if t]: new tuples -/
theorem ev_lcKeysT {j : Nat} {vs : List Nat} (f : Nat → Bool) (xs : Nat → List V) (h1 : ∀ H1, Ev td σ H1 (.ref d)) (hd : H d = some (.dK kvs)) (hz : kvs.length ≤ 40000) (hw : ∀ x, wipe ((wipe σ vs).set j (some x)) vs = wipe σ vs)
    (ht : ∀ (i : Nat) (kv : Key × V) (H1 : Hp) , kvs[i]? = some kv → EvT t ((wipe σ vs).set j (some (kV kv.1))) H1 (f i))
    (he : ∀ (i : Nat) (kv : Key × V) (H1 : Hp) (od : Obj), H1 d = some (.frz od (.dK kvs)) → kvs[i]? = some kv → f i = true → EvU te ((wipe σ vs).set j (some (kV kv.1))) H1 (xs i)) :
    ∀ H0, Ex H H0 → ∀ Q : VK, (∀ p H2 (ps : List Addr), H0 p = none → Ex H0 H2 → H2 p = some (.lst (ps.map V.ref)) → Paired (fun q v => H2 q = some (.tup v)) ps (((List.range kvs.length).filter f).map xs) → Q (.ref p) H2) → tLockE (tLc (iKeys td) (gName j) t te vs) σ H0 Q := by
  intro H0 e0 Q k
  have hd0 := e0 _ _ hd
  refine ⟨d, .dK kvs, hd0, trivial, fun od => ?_⟩
  refine h1 _ _ (Ex.refl _) _ fun H1 e1 => ⟨d, od, rfl, .inl ⟨kvs, e1 _ _ upd_same, fun Dl hD => ?_⟩⟩
  have dn : H1 d = some (.frz od (.dK kvs)) := e1 _ _ upd_same
  have ne : Dl ≠ d := fun z => by rw [z] at hD; rw [hD] at dn; cases dn
  refine lc_it walk_keys (fun i H' => Ex H1 H' ∧ ∃ ps : List Addr, H' Dl = some (.lst (ps.map V.ref)) ∧ ps.length ≤ i ∧ Paired (fun q v => H' q = some (.tup v)) ps (((List.range i).filter f).map xs)) ⟨Ex.new hD, [], upd_same, Nat.le_refl _, .nil⟩ (fun i H2 _ q => q.1 _ _ dn) (fun i x H2 H3 hi q y => ?_) (fun H2 q => ?_)
  · obtain ⟨rfl, ky, vv, hy, rfl⟩ := y
    obtain ⟨e2, ps, hl, hlen, hp⟩ := q
    refine ⟨hw _, ht i (ky, vv) _ hy _ (Ex.refl _) _ fun H3 e3 => ?_⟩
    cases hf : f i with
    | false =>
      show Ex H1 H3 ∧ _
      refine ⟨e2.trans e3, ps, e3 _ _ hl, by omega, ?_⟩
      rw [List.range_succ, List.filter_append, List.filter_cons, hf]
      show Paired _ ps (List.map xs (_ ++ []))
      rw [List.append_nil]
      exact Paired.mapP hp fun _ _ z => e3 _ _ z
    | true =>
      show te _ H3 fun y H4 => ∃ acc, _
      refine he i (ky, vv) H3 od (e3 _ _ (e2 _ _ dn)) hy hf H3 (Ex.refl _) _ fun r H4 nr e4 hr => ?_
      have hl4 : H4 Dl = some (.lst (ps.map V.ref)) := e4 _ _ (e3 _ _ hl)
      refine ⟨ps.map V.ref, hl4, sz_lt (by rw [List.length_map]; omega), Ex.mut ((e2.trans e3).trans e4) hD, ps ++ [r], ?_, ?_, ?_⟩
      · rw [List.map_append]
        exact upd_same
      · rw [List.length_append]
        show ps.length + 1 ≤ i + 1
        omega
      · have up : ∀ q w, H4 q = some (.tup w) → (upd H4 Dl (.lst (ps.map V.ref ++ [.ref r]))) q = some (.tup w) := fun q w hq => by
          rw [upd_ne (ne_of hq hl4 (by intro z; cases z))]
          exact hq
        rw [List.range_succ, List.filter_append, List.filter_cons, hf, List.map_append]
        have app : ∀ {F : Addr → List V → Prop} {as : List Addr} {bs : List (List V)} {a : Addr} {b : List V}, Paired F as bs → F a b → Paired F (as ++ [a]) (bs ++ [b]) := by
          intro F as bs a b hh hab
          induction hh with
          | nil => exact .cons hab .nil
          | cons h1 _ ih => exact .cons h1 ih
        exact app (Paired.mapP hp fun _ _ z => up _ _ (e4 _ _ (e3 _ _ z))) (up _ _ hr)
  · obtain ⟨e2, ps, hl, _, hp⟩ := q
    refine ⟨e2 _ _ dn, k Dl _ ps ?_ (fun a o h => ?_) ?_ (Paired.mapP hp fun q w z => ?_)⟩
    · cases h : H0 Dl with
      | none => rfl
      | some o =>
        have := e1 _ _ (by rw [upd_ne ne]; exact h)
        rw [hD] at this
        cases this
    · by_cases ha : a = d
      · rw [ha] at h ⊢
        rw [upd_same, ← hd0, h]
      · rw [upd_ne ha]
        exact e2 _ _ (e1 _ _ (by rw [upd_ne ha]; exact h))
    · rw [upd_ne ne]
      exact hl
    · have hdz : H2 d = some (.frz od (.dK kvs)) := e2 _ _ dn
      rw [upd_ne (ne_of z hdz (by intro w; cases w))]
      exact z
end
end Kn
namespace Kn
open PySem PySem.Spec PyProof.Rows L2 Evl SX
section
variable {K : PySem.W.Frag} {σ : L2.St} {H H' : Hp} {ta tb td ty te tc tv : TE} {t u : TT} {x y z v : V} {D : Ends} {tu tw tz : TS} {C p d dx : Addr} {fs : List (Str × V)} {kvs : List (Key × V)} {k : List Nat}
theorem q_dnew {i : Nat} (k : ∀ p, H p = none → tz D (σ.set i (some (.ref p))) (upd H p (.dK []))) : tSeq (tAsg tDNewK (gName i)) tz D σ H := k
theorem s_meth {m : Str} {sp : Sp} {E : XK} {tA : TA} {vs : List V} (ha : Ev ta σ H (.ref p)) (ho : H p = some (.ins C dx fs)) (hm : fs.lookup m = none) (h : EvA tA σ H vs) (k : ∀ H1, Ex H H1 → sp (.ref p :: vs) H1 (fun _ H2 => D.nx σ H2) E) : tDrop (tMeth C m sp [] E ta tA) D σ H :=
  ha H (Ex.refl H) _ fun H1 e1 => ⟨p, dx, fs, rfl, e1 _ _ ho, hm, h H1 e1 _ fun H2 e2 => by
    rw [List.append_nil]
    exact k H2 (e1.trans e2)⟩
theorem q_meth {m : Str} {sp : Sp} {E : XK} {tA : TA} {vs : List V} (ha : Ev ta σ H (.ref p)) (ho : H p = some (.ins C dx fs)) (hm : fs.lookup m = none) (h : EvA tA σ H vs) (k : ∀ H1, Ex H H1 → sp (.ref p :: vs) H1 (fun _ H2 => tz D σ H2) E) : tSeq (tDrop (tMeth C m sp [] E ta tA)) tz D σ H :=
  s_meth (D := { D with nx := tz D }) ha ho hm h k
/-- for k in sorted(d) -/
theorem q_forSD {ks : List (List Nat)} {j : Nat} (hv : Ev td σ H (.ref d)) (hd : H d = some (.dK kvs)) (hk : kvs.map (·.1) = (ks.map S).map Sum.inr) (hn : ks.length < 64) (Pv : List (List Nat) → Addr → Nat → L2.St → Hp → Prop)
    (h0 : ∀ ys p H1, ys.Perm ks → H p = none → Ex H H1 → H1 p = some (.lst (ys.map fun l => V.str (S l))) → Pv ys p 0 σ H1)
    (hl : ∀ ys p i σ' H', Pv ys p i σ' H' → SqL K H' p (ys.map fun l => V.str (S l)))
    (hs : ∀ ys p i l σ' H', ys.Perm ks → ys[i]? = some l → Pv ys p i σ' H' → tu { D with nx := Pv ys p (i + 1), ct := Pv ys p (i + 1), bk := tz D } (σ'.set j (some (.str (S l)))) H')
    (hend : ∀ ys p σ' H', ys.Perm ks → Pv ys p ys.length σ' H' → tz D σ' H') : tSeq (tFor (iList K (tCB (rSortD K) (tCons td tNil))) (gName j) tu) tz D σ H := by
  refine hv H (Ex.refl H) _ fun H1 e1 => ⟨d, kvs, ks.map S, rfl, .inl (e1 _ _ hd), hk, by rw [List.length_map]; exact hn, fun ys p hp _ hnew => ?_⟩
  have e : ys = (ys.map TL.tl).map S := by
    rw [List.map_map]
    exact (List.map_id' ys).symm.trans (List.map_congr_left fun x _ => (S_tl x).symm)
  have hperm : (ys.map TL.tl).Perm ks := by
    have h := hp.map TL.tl
    rw [map_S_tl] at h
    exact h
  have e2 : ys.map V.str = (ys.map TL.tl).map fun l => V.str (S l) := by
    rw [List.map_map]
    exact List.map_congr_left fun x _ => congrArg V.str (S_tl x).symm
  refine ⟨p, rfl, ⟨_, sq_of upd_same⟩, ?_⟩
  rw [e2]
  refine for_list (xs := (ys.map TL.tl).map fun l => V.str (S l)) (Pv (ys.map TL.tl) p) (h0 _ p _ hperm (fresh_back e1 hnew) (e1.trans (Ex.new hnew)) upd_same) (fun i σ' H' _ q => hl _ p i σ' H' q) (fun i x σ' H' hx q => ?_) (fun σ' H' q => ?_)
  · rw [List.getElem?_map] at hx
    cases h : (ys.map TL.tl)[i]? with
    | none => rw [h] at hx; cases hx
    | some l =>
      rw [h] at hx
      cases Option.some.inj hx
      exact hs _ p i l σ' H' hperm h q
  · rw [List.length_map] at q
    exact hend _ p σ' H' hperm q
end
/-! ### a dict made of pairs -/
def puts {α : Type} (acc L : List (List Nat × α)) : List (List Nat × α) := L.foldl (fun a x => put a x.1 x.2) acc
theorem look_puts {α : Type} {g : List Nat → Option α} : ∀ (L acc : List (List Nat × α)), (∀ x ∈ L, g x.1 = some x.2) → ∀ k, look (puts acc L) k = if k ∈ L.map (·.1) then g k else look acc k
  | [], acc, _, k => (if_neg (by simp)).symm
  | x :: r, acc, h, k => by
    show look (puts (put acc x.1 x.2) r) k = _
    rw [look_puts r _ (fun y hy => h y (List.mem_cons_of_mem _ hy)) k, look_put]
    by_cases h1 : k ∈ r.map (·.1)
    · rw [if_pos h1, if_pos (by rw [List.map_cons]; exact List.mem_cons_of_mem _ h1)]
    · rw [if_neg h1]
      by_cases h2 : k = x.1
      · rw [if_pos h2, if_pos (by rw [List.map_cons, h2]; exact List.mem_cons_self), h2, h x List.mem_cons_self]
      · rw [if_neg h2, if_neg (by rw [List.map_cons, List.mem_cons]; exact fun z => z.elim h2 h1)]
theorem puts_len {α : Type} : ∀ (L acc : List (List Nat × α)), (puts acc L).length ≤ acc.length + L.length
  | [], acc => Nat.le_refl _
  | x :: r, acc => by
    have h1 := puts_len r (put acc x.1 x.2)
    have h2 := put_len acc x.1 x.2
    show (puts (put acc x.1 x.2) r).length ≤ _
    rw [List.length_cons]
    omega
theorem Lies.puts {α : Type} {R : α → V → Prop} : ∀ {L : List (List Nat × α)} {kvs : List (Key × V)} {acc : List (List Nat × α)} {akvs : List (Key × V)}, Lies R L kvs → Lies R acc akvs → Lies R (Kn.puts acc L) (mergeK akvs kvs)
  | [], _, _, _, .nil, h => h
  | x :: r, kv :: kvs, acc, akvs, .cons h t, ha => by
    have h2 := ha.put (k := x.1) h.2
    rw [← h.1] at h2
    show Lies R (Kn.puts (Kn.put acc x.1 x.2) r) (mergeK (putK akvs kv.1 kv.2) kvs)
    exact Lies.puts (L := r) (kvs := kvs) t h2
theorem put_mem {α : Type} {es : List (List Nat × α)} {k : List Nat} {e : α} {x : List Nat × α} (h : x ∈ put es k e) : x ∈ es ∨ x = (k, e) := by
  unfold put at h
  split at h
  · obtain ⟨y, hy, e2⟩ := List.mem_map.mp h
    by_cases h3 : y.1 = k
    · rw [if_pos h3] at e2
      exact .inr (by rw [← e2, h3])
    · rw [if_neg h3] at e2
      exact .inl (by rw [← e2]; exact hy)
  · rcases List.mem_append.mp h with z | z
    · exact .inl z
    · exact .inr (List.mem_singleton.mp z)
theorem upd_none {H : Hp} {a b : Addr} {o : HO} (h : upd H a o b = none) : H b = none := by
  by_cases e : b = a
  · subst e
    rw [upd_same] at h
    cases h
  · rw [upd_ne e] at h
    exact h
theorem Paired.maps {α β γ : Type} {F : α → β → Prop} {f : γ → α} {g : γ → β} : ∀ (L : List γ), (∀ i ∈ L, F (f i) (g i)) → Paired F (L.map f) (L.map g)
  | [], _ => .nil
  | x :: r, h => .cons (h x List.mem_cons_self) (Paired.maps r fun i hi => h i (List.mem_cons_of_mem _ hi))
theorem ev_dgetF {σ : L2.St} {H : Hp} {td ty : TE} {d : Addr} {k : List Nat} {kvs : List (Key × V)} {v : V} {od : Obj} (h1 : Ev td σ H (.ref d)) (h2 : Ev ty σ H (.str (S k))) (hd : H d = some (.frz od (.dK kvs))) (hv : valV kvs (Sum.inr (S k)) = some v) : Ev (tDGet td ty) σ H v := fun H1 e Q q =>
  h1 H1 e _ fun H2 e2 => h2 H2 (e.trans e2) _ fun H3 e3 => ⟨d, v, rfl, .inl ⟨kvs, Sum.inr (S k), .inr ⟨od, ((e.trans e2).trans e3) _ _ hd⟩, rfl, hv.symm⟩, q H3 (e2.trans e3)⟩
end Kn

/-! ### own exceptions over an own base -/
namespace Kn
open PySem PySem.Spec PyProof.Rows L2 Evl SX
/-- what the base's __init__ asks of the own base class at B -/
structure BaseC (K : PySem.W.Frag) (B : Addr) : Prop where
  sp : PySem.W.specialIn K (.ref B) "__getattribute__" = some (some (.builtin "type.__getattribute__"))
  rd : PySem.W.readsIn K B (.type "type") = true
  fi : PySem.W.findCls K (.ref B) (.type "type") "__init__" = some (.val (.builtin "ValueError.__init__"))
theorem pe_beinit {X : Cx} {b : Str} {B : Addr} {e : Expr} {es : List Expr} {ta : TA} {p1 p2 pos : Pos} {pl : Sem Bool} (T : BaseC X.K B) (hg : Gl X b) (hm : X.mg b = some (.ref B)) (ha : PA X (e :: es) ta)
    (hdb : (b == ("__debug__" : Str)) = false := by decide)
    (hc : eval (.Call (.Attribute (.Name b p1) "__init__" p2) (e :: es) [] pos) X.env = (do
      let ov ← eval (.Name b p1) X.env
      standAt p2.atName
      let (f, first) ← holding [ov] (getMethod ov "__init__" pl)
      callWith pos f first (backTo pos (starEach (e :: es) X.env)) (backToKw pos (keywordEach [] X.env))) := by rfl)
    (he : starEach (e :: es) X.env = (false, eval e X.env) :: starEach es X.env := by rfl) (hpl : (backTo pos (starEach es X.env)).any (·.1) = false := by rfl) :
    PE X (.Call (.Attribute (.Name b p1) "__init__" p2) (e :: es) [] pos) (tVeI X.K ta) := by
  refine ⟨fun pins s σ H Q I h => ?_⟩
  refine PySem.W.methodCall_KW (ld_glob I hg hm ?_ hdb) hc
  refine PySem.W.method_cls I.kIn T.sp (PySem.W.cls_value I.kIn T.rd T.fi (by decide +kernel) ?_)
  show wpAny _ _ (callWith pos (Value.builtin "ValueError.__init__") [] (backTo pos (starEach (e :: es) X.env)) []) _ _ _
  refine PyProof.Rows.callWith_method1 (thn (ha.run pos pins _ σ H _ (I.tok _) h) fun us s1 ⟨vs, H1, I1, r1, a, C, ws, ev, hl, T, ea, q⟩ => ?_) he hpl
  subst ev
  cases r1 with
  | @cons _ u0 _ ur ra rw' =>
    obtain rfl : u0 = Value.ref a := ra
    have hlen : ur.length ≤ sizeLine := by
      rw [← Paired.length rw', sizeLine_eq]
      omega
    exact oinit_ok T I1 ea hlen fun s' J => ⟨.non, H1, J, rfl, q⟩
/-- isinstance(e, c), e the exception at a that the suite holds, with a dict -/
def rIsX (K : PySem.W.Frag) (a : Addr) (cls : Value) (d : Option Addr) : List V → Hp → VK → Prop := fun xs H Q => ∃ (D dd : Addr) (fs : List (Str × V)) (c : V) (cv : Value) (b : Bool),
  cls = .ref D ∧ d = some dd ∧ ExcC K D ∧ H dd = some (.xd fs) ∧ xs = [.ref a, c] ∧ (∀ u, RelV c u → u = cv) ∧ PySem.W.kitOne K (.ref D) cv = some b ∧ Q (.bl b) H
theorem cr_isX {X : Cx} {a : Addr} {oe : Obj} {cls : Value} {d : Option Addr} {pn : List (Addr × Obj)} (hz : Zc cls d oe) (hf : ∃ vs, oe.data = .fields vs) : CallR (X.suite a ((a, oe) :: pn)) (.builtin "isinstance") (rIsX X.K a cls d) := by
  intro pins s σ H xs us Q I r h
  obtain ⟨D, dd, fs, c, cv, b, rfl, rfl, C, hd, rfl, hcv, e, q⟩ := h
  obtain ⟨u0, u1, rfl, r0, r1⟩ := vals2 r
  obtain rfl : u0 = Value.ref a := r0
  obtain rfl := hcv _ r1
  obtain ⟨hget, _⟩ := I.pin (a, oe) (List.mem_append_left _ List.mem_cons_self)
  obtain ⟨vs, hv⟩ := hf
  obtain ⟨mA, hns, _⟩ := (I.hok dd _ hd : ObjOk X.prog X.w H s.heap dd (.xd fs))
  obtain ⟨od, ho, _⟩ := lookIn_ns hns
  have J : PySem.W.InstAt s.heap a oe D (some od) := ⟨hget, hz.1, by unfold PySem.W.notCls; rw [hv] <;> rfl, by rw [hz.2]; exact ho⟩
  obtain ⟨cd, hc, _⟩ := PySem.W.any_some C.hd
  exact PySem.W.kia_one (PySem.W.kitx_exc (by rw [hc]; rfl) C.hg C.hk C.hs C.ha C.hn C.ht C.hm) I.kIn J e (fun z => nomatch z) fun tk => ⟨.bl b, H, I.kept (t' := tk) fun _ _ z => z, rfl, q⟩
end Kn
/-! ### int(t, 2) -/
namespace Kn.Bi
open PySem PySem.Spec PyProof.Rows L2 PySem.NumText PySem.Calls
def IsBin (c : Nat) : Prop := c = 48 ∨ c = 49
theorem IsBin.hex {c : Nat} (h : IsBin c) : Hx.IsHex c := .inl (by unfold IsBin at h; omega)
theorem IsBin.lt {c : Nat} (h : IsBin c) : Hx.hv c < 2 := by
  rcases h with rfl | rfl <;> decide
def binNum (l : List Nat) : Nat := l.foldl (fun a c => a * 2 + Hx.hv c) 0
theorem step_bin {ds : Array Nat} {b : Bool} {c : Nat} (h : IsBin c) : PySem.NumText.step 2 (ds, b) c = some (ds.push (Hx.hv c), true) := by
  unfold PySem.NumText.step
  rw [if_neg (by rw [beq_iff_eq]; exact (Hx.hex_rng h.hex).2.2), Hx.digit_hex h.hex]
  exact if_pos h.lt
theorem fold_bin : ∀ (cs : List Nat) (ds : Array Nat), (∀ c ∈ cs, IsBin c) → cs.foldlM (PySem.NumText.step 2) (ds, true) = some (cs.foldl (fun acc c => acc.push (Hx.hv c)) ds, true)
  | [], _, _ => rfl
  | c :: cs, ds, h => by
    rw [List.foldlM_cons, step_bin (h c List.mem_cons_self)]
    exact fold_bin cs _ fun d hd => h d (List.mem_cons_of_mem _ hd)
theorem digits_bin {cs : List Nat} (h : ∀ c ∈ cs, IsBin c) (hne : cs ≠ []) : digits? 2 cs = some (cs.foldl (fun acc c => acc.push (Hx.hv c)) #[]) := by
  cases cs with
  | nil => exact absurd rfl hne
  | cons c cs =>
    unfold digits?
    rw [List.foldlM_cons, step_bin (h c List.mem_cons_self)]
    show (cs.foldlM (PySem.NumText.step 2) ((#[] : Array Nat).push (Hx.hv c), true)).bind _ = _
    rw [fold_bin cs _ fun d hd => h d (List.mem_cons_of_mem _ hd)]
    rfl
theorem push_bin : ∀ (cs : List Nat) (ds : Array Nat), (cs.foldl (fun acc c => acc.push (Hx.hv c)) ds).foldl (fun acc d => acc * 2 + d) 0 = cs.foldl (fun a c => a * 2 + Hx.hv c) (ds.foldl (fun acc d => acc * 2 + d) 0)
  | [], _ => rfl
  | c :: cs, ds => by
    rw [List.foldl_cons, push_bin cs, List.foldl_cons]
    congr 1
    simp
theorem based_bin : ∀ {cs : List Nat}, (∀ c ∈ cs, IsBin c) → based 2 cs = (2, false, cs)
  | [], _ => rfl
  | [a], h => by rcases h a List.mem_cons_self with rfl | rfl <;> rfl
  | a :: c :: r, h => by
    rcases h a List.mem_cons_self with rfl | rfl <;> rcases h c (List.mem_cons_of_mem _ List.mem_cons_self) with rfl | rfl <;> rfl
theorem read_bin {cs : List Nat} (h : ∀ c ∈ cs, IsBin c) (hne : cs ≠ []) : (int_private% "readNumeral") 0 2 cs = (int_private% "Numeral.value") ((binNum cs : Nat) : Int) := by
  have hx : ∀ c ∈ cs, Hx.IsHex c := fun c hc => (h c hc).hex
  have hr : ∀ c ∈ cs.reverse, Hx.IsHex c := fun c hc => hx c (List.mem_reverse.mp hc)
  refine (readNumeral_eq 0 2 cs).trans ?_
  rw [Hx.dropB hx, Hx.signH hx]
  show judge 0 false (based 2 cs).1 (based 2 cs).2.1 (digits? (based 2 cs).1 (((based 2 cs).2.2.reverse.dropWhile blank).reverse)) = _
  rw [based_bin h]
  show judge 0 false 2 false (digits? 2 ((cs.reverse.dropWhile blank).reverse)) = _
  rw [Hx.dropB hr, List.reverse_reverse, digits_bin h hne]
  show (int_private% "Numeral.value") (((cs.foldl (fun acc c => acc.push (Hx.hv c)) (#[] : Array Nat)).foldl (fun acc d => acc * 2 + d) 0 : Nat) : Int) = _
  have z : (#[] : Array Nat).foldl (fun acc d => acc * 2 + d) 0 = 0 := by first | rfl | simp
  rw [push_bin, z] <;> rfl
theorem gives_bin {x : PySem.Str} {u t : Tok} (hl : x.length ≤ 640) (h : ∀ c ∈ x.cps.toList, IsBin c) (hne : x.cps.toList ≠ []) :
    Gives (Builtin.«int.__new__» ⟨[.type "int", .str x u, .int 2 t], []⟩) (.int ((binNum x.cps.toList : Nat) : Int)) :=
  .of_wp fun M A E s Q hQ => by
    obtain ⟨hp, g, d, tk, os⟩ := s
    have f1 := F.conv_sub_int
    have f2 := F.madeHere_int
    have f6 : typeOf (.str x u) = pure (.type "str") := rfl
    obtain ⟨e1, e2⟩ := Hx.seen_hex fun c hc => (h c hc).hex
    have hs : (numSeenOf x).length ≤ 640 := by
      rw [e2, Array.length_toList]
      exact hl
    have hr : (int_private% "readNumeral") 0 2 (numSeenOf x) = (int_private% "Numeral.value") ((binNum x.cps.toList : Nat) : Int) := by
      rw [e2]
      exact read_bin h hne
    have ha : ((numSeenOf x).length == (numTextOf x).length) = true := by
      rw [e1, e2]
      exact beq_self_eq_true _
    have hk := Hx.Hid.mk (And.intro hs (And.intro hr ha))
    clear hs hr ha e1 e2 hl hne h
    repeat (any_goals (first
      | assumption
      | ((with_reducible show wpAny _ _ ((int_private% "intFromText") _ _ _) _ _ _); refine Hx.wp_textB hk.out.1 hk.out.2.1 hk.out.2.2 ?_)
      | wp_step))
    all_goals first | exact ⟨_, rfl, hQ⟩ | skip
/-- int(t, 2) -/
def rIntBin : List V → Hp → VK → Prop := fun xs H Q => ∃ l : List Nat, xs = [.str (SX.S l), .int 2] ∧ l ≠ [] ∧ l.length ≤ 640 ∧ (∀ c ∈ l, IsBin c) ∧ Q (.int ((binNum l : Nat) : Int)) H
theorem cr_intBin {X : Cx} : CallR X (.type "int") rIntBin := by
  intro pins s σ H xs us Q I r h
  obtain ⟨l, rfl, hne, hl, hx, q⟩ := h
  obtain ⟨u, w', rfl, r1, r2⟩ := vals2 r
  obtain ⟨t1, rfl⟩ := r1
  obtain ⟨t2, rfl⟩ := r2
  exact callType_new F.called_int F.newNe_int (Hx.typeCall_int_2 _ _) (Hx.newCall_int_2 _ _) (fun obj => F.initArgs_range_2 obj _ _) F.entry_int_new (gives_bin (x := SX.S l) (by rw [SX.S_len]; exact hl) hx hne).meets
    (show (Made.int ((binNum l : Nat) : Int)).post _ s from ⟨rfl, ⟨.int ((binNum l : Nat) : Int), H, I.tok _, ⟨_, rfl⟩, q⟩⟩)
end Kn.Bi
/-! ### f'{n:b}' -/
namespace Kn.Bi
open PySem PySem.Spec PyProof.Rows L2 PySem.NumText PySem.Calls PySem.W Builtin.Float
def digB (n : Nat) : List Nat := (Nat.toDigits 2 n).map Char.toNat
def fB : FormatSpec := { align := 62, type := some 98 }
theorem parse_b : parseFormatSpec (Str.ofString "b").cps.toList "int" 62 = .ok fB := by kernel_rfl
theorem digB_ne (n : Nat) : digB n ≠ [] := fun z => by
  have h1 := tDigits_len_ge 2 n
  have h2 : (digB n).length = (Nat.toDigits 2 n).length := List.length_map _
  rw [z, List.length_nil] at h2
  omega
theorem field_eq (ds : List Nat) (h : ds ≠ []) : intField' fB false [] ds [] 4 = SX.S ds := by
  unfold intField' fB
  cases ds with
  | nil => exact absurd rfl h
  | cons c r =>
    simp
    omega
theorem field_b {a : Int} (h0 : 0 ≤ a) : intField' fB (decide (a < 0)) [] (digB a.natAbs) [] 4 = SX.S (digB a.natAbs) := by
  rw [decide_eq_false (by omega)]
  exact field_eq _ (digB_ne _)
theorem meets_b {a : Int} {t u : Tok} (h0 : 0 ≤ a) (hl : (digB a.natAbs).length ≤ 100000) : Meets (Builtin.«int.__format__» ⟨[.int a t, .str "b" u], []⟩) (fun _ R s => ∀ t' k, R (.ok (.ret (.str (SX.S (digB a.natAbs)) t'))) { s with toks := k }) := by
  apply KPc.meets_of
  intro _ _ _ _ _ _ hQ
  unfold Builtin.«int.__format__»
  refine wpAny_bind (wpAny_of_eq (a := (_, _)) rfl ?_)
  refine wpAny_bind (wpAny_of_eq (a := _) rfl ?_)
  kxf_if
  refine wpAny_bind (wpAny_typeNameOf (T := "str") (typeIs_str _ _ _) (by decide) fun _ => ?_)
  refine wpAny_bind (wpAny_of_eq (a := some _) rfl ?_)
  kxf_if
  kxf_if
  refine wpAny_bind (wpAny_typeNameOfCut_int ?_)
  rw [parse_b]
  dsimp only
  rw [if_pos (by decide +kernel)]
  show wpAny _ _ (retStr (intField' fB (decide (a < 0)) [] (digB a.natAbs) [] 4)) _ _ _
  exact KXf.ret_text (field_b h0) (by rw [field_b h0, SX.S_len]; exact Evl.sz_of hl) hQ
/-- {x:b} -/
def tFmtB (te : TE) : TE := fun σ H Q => te σ H fun x H1 => ∃ i : Int, x = .int i ∧ 0 ≤ i ∧ (digB i.natAbs).length ≤ 100000 ∧ Q (.str (SX.S (digB i.natAbs))) H1
theorem pe_fmtB {X : Cx} {e sp : Expr} {te : TE} {pos : Pos} (he : PE X e te) (hs : PE X sp (tC (.str "b"))) : PE X (.FormattedValue e (-1) (some sp) pos) (tFmtB te) := by
  refine ⟨fun pins s σ H Q I h => ?_⟩
  refine wpAny_FormattedValue_spec (thn (he.run pins s σ H _ I h) fun v s1 ⟨x, H1, I1, r1, i, ex, h0, hl, q⟩ => ?_)
  subst ex
  obtain ⟨t, rfl⟩ := r1
  refine thn (hs.run pins s1 σ H1 (fun v H2 => v = .str "b" ∧ H2 = H1) I1 ⟨rfl, rfl⟩) fun r s2 ⟨y, H2, I2, r2, ey, eH⟩ => ?_
  subst ey
  subst eH
  obtain ⟨t2, rfl⟩ := r2
  exact ⟨_, t2, rfl, KXf.field_int rfl (by decide +kernel) (by decide +kernel) (fun u => meets_b h0 hl) fun t' k => ⟨.str (SX.S (digB i.natAbs)), H2, I2.tok _, ⟨_, rfl⟩, q⟩⟩
end Kn.Bi
/-! ### comprehensions over ranges -/
namespace Kn
open PySem PySem.Spec PyProof.Rows L2 Evl SX
section
variable {K : PySem.W.Frag} {σ : L2.St} {H H' : Hp} {ta tb te tc : TE} {t u : TT} {x y z v : V} {D : Ends} {tu tw tz : TS}
theorem el_lcR2 {ta : TA} {j : Nat} {vs : List Nat} {lo hi : Int} (f : Nat → Bool) (v : Nat → V) (h : EvA ta σ H [.int lo, .int hi]) (hb : 0 ≤ lo ∧ lo ≤ hi ∧ hi ≤ 40000) (hw : ∀ x, wipe ((wipe σ vs).set j (some x)) vs = wipe σ vs)
    (ht : ∀ (i : Nat) H1, Ex H H1 → lo + (i : Int) < hi → EvT t ((wipe σ vs).set j (some (.int (lo + (i : Int))))) H1 (f i)) (he : ∀ (i : Nat) H1, Ex H H1 → lo + (i : Int) < hi → f i = true → Ev te ((wipe σ vs).set j (some (.int (lo + (i : Int))))) H1 (v i)) :
    EvL (tLc (iRng2 ta) (gName j) t te vs) σ H (given (hi - lo).toNat f v) := fun H0 e Q q => h H0 e _ fun H1 e1 => ⟨lo, hi, rfl, ⟨by omega, by omega, by omega, by omega⟩, fun Dl hD =>
  lc_it walk_range (Cw H1 f v Dl) ⟨hD, Ex.new hD, upd_same⟩ (fun _ _ _ _ => trivial) (fun i x H2 H3 hi p y => by
    obtain ⟨rfl, rfl⟩ := y
    exact ⟨hw _, cw_turn p (by omega) (ht i H1 (e.trans e1) (by omega)) (fun hf => he i H1 (e.trans e1) (by omega) hf)⟩) (fun H' p => q Dl H' (fresh_back e1 p.1) (e1.trans p.2.1) p.2.2)⟩
theorem range7 (c : Nat) (hc : c ≤ 5000) : RgC 1 (((1 + 7 * c : Nat) : Int)) 7 c := by
  have e : Builtin.Range.rangeSize 1 (((1 + 7 * c : Nat) : Int)) 7 = (c : Int) := by
    unfold Builtin.Range.rangeSize
    rw [if_pos (by decide)]
    split <;> omega
  have fit : ∀ i : Int, 0 ≤ i → i ≤ 100000 → Builtin.Range.rangeFitsLong i = true := fun i h1 h2 => by
    unfold Builtin.Range.rangeFitsLong
    rw [decide_eq_true (by omega), decide_eq_true (by omega)]
    rfl
  refine ⟨by decide, by decide, ?_, e⟩
  unfold Builtin.Range.small
  rw [e, fit 1 (by decide) (by decide), fit _ (by omega) (by omega), fit 7 (by decide) (by decide), fit (c : Int) (by omega) (by omega), if_pos (by decide), fit _ (by omega) (by omega), Bool.or_true]
  rfl
theorem el_lcR7 {ta : TA} {j : Nat} {vs : List Nat} {c : Nat} (v : Nat → V) (h : EvA ta σ H [.int 1, .int (((1 + 7 * c : Nat) : Int)), .int 7]) (hc : c ≤ 5000) (hw : ∀ x, wipe ((wipe σ vs).set j (some x)) vs = wipe σ vs)
    (he : ∀ (i : Nat) H1, Ex H H1 → i < c → Ev te ((wipe σ vs).set j (some (.int (1 + (i : Nat) * 7)))) H1 (v i)) :
    EvL (tLc (iRng3 ta) (gName j) tYes te vs) σ H (given c (fun _ => true) v) := fun H0 e Q q => h H0 e _ fun H1 e1 => ⟨1, _, 7, c, rfl, range7 c hc, fun Dl hD =>
  lc_it walk_rangeC (Cw H1 (fun _ => true) v Dl) ⟨hD, Ex.new hD, upd_same⟩ (fun _ _ _ _ => trivial) (fun i x H2 H3 hi p y => by
    obtain ⟨rfl, rfl⟩ := y
    exact ⟨hw _, cw_turn p (by omega) et_yes (fun hf => he i H1 (e.trans e1) hi)⟩) (fun H' p => q Dl H' (fresh_back e1 p.1) (e1.trans p.2.1) p.2.2)⟩
theorem ev_intBin {l : List Nat} (h : EvA (tCons ta (tCons tb tNil)) σ H [.str (S l), .int 2]) (hne : l ≠ []) (hl : l.length ≤ 640) (hb : ∀ c ∈ l, Bi.IsBin c) : Ev (tCB Bi.rIntBin (tCons ta (tCons tb tNil))) σ H (.int ((Bi.binNum l : Nat) : Int)) := fun H1 e Q q =>
  h H1 e _ fun H2 e2 => ⟨l, rfl, hne, hl, hb, q H2 e2⟩
theorem ev_fmtB {n : Nat} (h : Ev te σ H (.int (n : Int))) (hl : (Bi.digB n).length ≤ 100000) : Ev (Bi.tFmtB te) σ H (.str (S (Bi.digB n))) := fun H1 e Q q =>
  h H1 e _ fun H2 e2 => ⟨(n : Int), rfl, by omega, hl, q H2 e2⟩
end
end Kn

/-! ### text * int -/
namespace Kn
open PySem PySem.Spec PyProof.Rows L2 Evl SX
def rMulS : R2 := fun x y H Q => ∃ (z : List Nat) (n : Nat), x = .str (S z) ∧ y = .int (n : Int) ∧ n ≤ 100000 ∧ z.length ≤ 100 ∧ Q (.str (S (List.replicate n z).flatten)) H
theorem rep_arr (z : List Nat) : ∀ (n : Nat) (a : Array Nat), ((List.replicate n z.toArray).foldl (· ++ ·) a).toList = a.toList ++ (List.replicate n z).flatten
  | 0, a => by simp
  | n + 1, a => by
    rw [List.replicate_succ, List.foldl_cons, rep_arr z n, List.replicate_succ, List.flatten_cons]
    simp
theorem op_mulS {X : Cx} : OpR X (binaryOp .Mult) rMulS := by
  intro pins s σ H x y v u Q I rx ry h
  obtain ⟨z, n, rfl, rfl, hn, hz, q⟩ := h
  obtain ⟨t, rfl⟩ := rx
  obtain ⟨t2, rfl⟩ := ry
  have hb : z.length * n ≤ 100 * 100000 := Nat.mul_le_mul hz hn
  have e : ((n : Int)).toNat = n := by omega
  have hl : decide ((S z).length * ((n : Int)).toNat > sizeLine) = false := by
    rw [e, S_len]
    exact decide_eq_false (Nat.not_lt.mpr (Nat.le_trans hb (by decide)))
  have p63 : (2 ^ 63 : Int) = 9223372036854775808 := by decide
  have g1 : decide ((n : Int) < -(2 ^ 63 : Int)) = false := decide_eq_false (by rw [p63]; omega)
  have g2 : decide ((n : Int) ≥ (2 ^ 63 : Int)) = false := decide_eq_false (by rw [p63]; omega)
  refine PySem.P.mul_str (by rw [g1, g2]; rfl) (fun h1 h2 => ?_) (fun _ _ => hl) ?_
  · rw [S_len]
    have h3 : ((z.length * n : Nat) : Int) ≤ ((10000000 : Nat) : Int) := Int.ofNat_le.mpr hb
    rw [Int.natCast_mul] at h3
    have h4 := (Int.le_ediv_iff_mul_le (show (0 : Int) < n by omega)).mpr (show ((z.length : Int)) * (n : Int) ≤ 2 ^ 63 - 1 by rw [p63]; omega)
    omega
  · have key : ∀ y : Str, y = S (List.replicate n z).flatten → ∀ t' k, EP X pins σ Q (.str y t') { s with toks := k } := fun y ey t' k => by
      subst ey
      exact ⟨.str (S (List.replicate n z).flatten), H, I.tok k, ⟨t', rfl⟩, q⟩
    split
    · next h1 =>
      have : n = 0 := by omega
      subst this
      exact ⟨by decide, key _ rfl _ _⟩
    · next h1 =>
      split
      · next h2 =>
        refine key _ ?_ _ s.toks
        rw [Bool.or_eq_true, beq_iff_eq, beq_iff_eq, S_len] at h2
        rcases h2 with h2 | h2
        · have : n = 1 := by omega
          subst this
          simp
        · have : z = [] := List.eq_nil_of_length_eq_zero h2
          subst this
          simp
      · rw [e]
        have ez : (⟨(List.replicate n (S z).cps).foldl (· ++ ·) #[]⟩ : Str) = S (List.replicate n z).flatten := by
          refine TL.ext_tl ?_
          show ((List.replicate n z.toArray).foldl (· ++ ·) #[]).toList = (List.replicate n z).flatten
          rw [rep_arr z n #[]]
          rfl
        refine ⟨?_, key _ ez _ _⟩
        rw [ez, S_len]
        simp
        exact Nat.le_trans (by rw [Nat.mul_comm]; exact hb) (by decide)
end Kn
/-! ### several except clauses, each with the same name -/
namespace Kn
open PySem PySem.Spec PyProof.Rows L2
def wManyAs (K : PySem.W.Frag) (i : Nat) (Wout : WX) (D : Ends) : List (Value × (Addr → Value → Option Addr → TS)) → WX
  | [] => Wout
  | (c, ts) :: r => fun cls d σ H => ∃ b, PySem.W.exmOne K cls c = some b ∧
      (b = true → ∀ a, H a = none → ts a cls d { nx := fun σ' H' => D.nx (σ'.set i none) H', rt := D.rt, bk := fun σ' H' => D.bk (σ'.set i none) H', ct := fun σ' H' => D.ct (σ'.set i none) H' } (σ.set i (some (.ref a))) H) ∧
      (b = false → wManyAs K i Wout D r cls d σ H)
inductive HdsAs (X : Cx) (n : Str) : List ExceptHandler → List (Value × (Addr → Value → Option Addr → TS)) → Prop
  | nil : HdsAs X n [] []
  | cons {x : Str} {c : Value} {ts : Addr → Value → Option Addr → TS} {b₀ : Stmt} {suite : List Stmt} {np pos' : Pos} {hds : List ExceptHandler} {l : List (Value × (Addr → Value → Option Addr → TS))} (hc : Names X x c)
      (hsu : ∀ (a : Addr) (oe : Obj) (cls : Value) (d : Option Addr) (pn : List (Addr × Obj)), Zc cls d oe → (∃ vs, oe.data = .fields vs) → PSs (X.suite a ((a, oe) :: pn)) (b₀ :: suite) (ts a cls d)) (r : HdsAs X n hds l) :
      HdsAs X n (.ExceptHandler (some (.Name x np)) (some n) (b₀ :: suite) pos' :: hds) ((c, ts) :: l)
section
variable {X : Cx} {body : List Stmt} {h₀ : ExceptHandler} {hds : List ExceptHandler} {l : List (Value × (Addr → Value → Option Addr → TS))} {pos : Pos} {tb : WX → TS} {Wout : WX} {n : Str} {i : Nat}
theorem ps_try_manyAs (hs : X.stack = X.env :: X.outer) (hf : X.env.frame = some X.env.locals) (hN : X.N.Nodup) (hi : X.N[i]? = some n) (hln : X.env.kindOf n = some .local) (tk : Takes X Wout)
    (hb : ∀ (W : WX) (pn : List (Addr × Obj)) (xe : Value → Shared → Prop), Takes (X.tr pn xe) W → PassesOwn (model X.prog X.w) X.A X.env xe → PSs (X.tr pn xe) body (tb W))
    (hh : HdsAs X n (h₀ :: hds) l) : PS X (.Try body (h₀ :: hds) [] [] pos) (fun D σ H => tb (wManyAs X.K i Wout D l) D σ H) := by
  refine ⟨fun pins s σ H D I h => ?_⟩
  have ok := I.ok
  have hfr : X.A.frames = some (X.env :: X.outer) := by rw [ok.frames, hs]
  have hloc : Loc X.env.scope n := .inl hln
  refine wpAny_Try_except ?_
  refine wpAny_mono ((hb (wManyAs X.K i Wout D l) (X.pn ++ pins) (fun e s₁ => wpAny (model X.prog X.w) X.A (noteFrame e X.env) (fun _ s₂ => wpAny (model X.prog X.w) X.A (setFlight e none) (fun _ s₃ =>
    wpAny (model X.prog X.w) X.A (handleBy e X.env (h₀ :: hds)) (SP X pins D) X.xe s₃) X.xe s₂) X.xe s₁) (fun u s' xx => ?_) PassesOwn.looking).run [] s σ H D (I.toTry _) h) (fun f s1 hsp => ?_) (fun e s1 he => he)
  · obtain ⟨a, B, sI, pins', σ', H', cls, d, rfl, J', nb, up, sky, na, os, ag, w⟩ := xx
    have J : Inv X pins σ' H' sI := J'.ofTry ok
    have sky' : Sky B (X.env :: X.outer) a (Zc cls d) X.env.locals s'.heap := by rw [← hs]; exact sky
    show wpAny (model X.prog X.w) X.A (noteFrame (.ref a) X.env) _ _ _
    refine Sky.land Zc.steady hfr hf sky' fun h3 fl3 up3 => ?_
    have J3 : Inv X pins σ' H' { s' with heap := h3 } := J.landed nb fl3.1 (up.trans up3) os ag
    obtain ⟨oe3, vs3, he3, hz3, hd3⟩ := fl3.there
    have notFr : ∀ {h : Heap} {o : Obj} {vs : Array Value}, h.FunFrames B (X.env :: X.outer) → h.get? a = some o → o.data = .fields vs → a ∉ frs (X.env :: X.outer) := fun {h o vs} ff e dd hm => by
      obtain ⟨_, o', e', hnf⟩ := ff.mem hm
      rw [e] at e'; cases e'
      exact hnf _ dd
    have nfr := notFr fl3.2.2.1 he3 hd3
    have nL : a ≠ X.env.locals := fun z => nfr (List.mem_filterMap.mpr ⟨X.env, List.mem_cons_self, by rw [hf, z]⟩)
    have nF : a ∉ X.fs := fun hm => by
      obtain ⟨e, he, q⟩ := List.mem_filterMap.mp hm
      exact nfr (List.mem_filterMap.mpr ⟨e, List.mem_cons_of_mem _ he, q⟩)
    have S3 := J3.suite he3 hd3 na nL nF
    have go : ∀ {hds' : List ExceptHandler} {l' : List (Value × (Addr → Value → Option Addr → TS))}, HdsAs X n hds' l' → wManyAs X.K i Wout D l' cls d σ' H' →
        wpAny (model X.prog X.w) X.A (handleBy (.ref a) X.env hds') (SP X pins D) X.xe { s' with heap := h3 } := by
      intro hds' l' hk
      induction hk with
      | nil =>
        intro w
        refine wpAny_handleBy_nil ?_
        obtain ⟨k1, k2, k3, oe, vs, T, oT, ts', he, hz, hd, h1, hr⟩ := id fl3
        unfold PySem.passOn
        refine wpAny_bind (wpAny_field he hd h1 ?_)
        rw [if_neg (show ¬ ((Value.ref T == Value.none) = true) from by simp)]
        have fin : wpAny (model X.prog X.w) X.A (setFlight (.ref a) X.env.frame) (fun _ s4 => wpAny (model X.prog X.w) X.A (throw (.ref a) : Sem Flow) (SP X pins D) X.xe s4) X.xe { s' with heap := h3 } := by
          rw [hf]
          refine HandSPX.setFlight_upZ fl3 fun h4 hh4 up4 => wpAny_throw (tk _ _ ?_)
          exact ⟨a, B, sI, pins, σ', H', cls, d, rfl, J, nb, (up.trans up3).trans up4, .inr (.inr (by rw [hs]; exact hh4)), na, os, ag, w⟩
        first
          | exact wpAny_bind (wpAny_pure (wpAny_bind fin))
          | exact wpAny_bind fin
      | @cons x c ts b₀ suite np pos' hds2 l2 hc hsu r ih =>
        intro w
        obtain ⟨b, hb1, hyes, hno⟩ := w
        refine wpAny_handleBy_cons (codeAny_handlers_test ?_) (by intro q; cases q)
        have LT : PySem.W.Looks (model X.prog X.w) h3 (typeOf (.ref a)) cls := fun A Q E s k q => wpAny_typeOf_ref (k _ _ he3) (by rw [hz3.1]; exact q)
        have LM := PySem.W.exm_one (M := model X.prog X.w) (J3.kIn) LT hb1
        have test : ∀ {Q : Value → Shared → Prop} {E : Value → Shared → Prop}, Q c { s' with heap := h3 } → wpAny (model X.prog X.w) (X.A.mark (some (.ref a))) (eval (.Name x np) X.env) Q E { s' with heap := h3 } := fun {Q E} q => by
          obtain ⟨hg, hdbg, hm | ⟨hm, hv, hnn⟩⟩ := hc
          · exact ld_glob (X := X.suite a ((a, oe3) :: (X.pn ++ pins))) S3 hg hm q hdbg
          · exact ld_blt (X := X.suite a ((a, oe3) :: (X.pn ++ pins))) S3 hg hm hv q hnn hdbg
        refine test (LM.here ?_)
        cases b with
        | true =>
          refine codeAny_handlers_suite_as ?_
          refine HandSPX.lands_againZ fl3 fun h4 fl4 up4 => ?_
          have J4 : Inv X pins σ' H' { s' with heap := h4 } := J.landed nb fl4.1 ((up.trans up3).trans up4) os ag
          obtain ⟨oe4, vs4, he4, hz4, hd4⟩ := fl4.there
          have S4 := J4.suite he4 hd4 na nL nF
          refine store_ok (X := X.suite a ((a, oe4) :: (X.pn ++ pins))) (v := .ref a) S4 hN hi hloc rfl (fun s5 S5 => ?_) (.inr hln)
          refine wpAny_mono ((hsu a oe4 cls d (X.pn ++ pins) hz4 ⟨_, hd4⟩).run [] s5 _ H' _ S5 (hyes rfl a na)) (fun f s6 hsp => ?_) (fun _ _ z => False.elim z)
          have end_ : ∀ {σ6 : L2.St} {H6 : Hp} {Q : Shared → Prop}, Inv (X.suite a ((a, oe4) :: (X.pn ++ pins))) [] σ6 H6 s6 → (∀ s7, Inv X pins (σ6.set i none) H6 s7 → Q s7) →
              wpAny (model X.prog X.w) X.A (do bindName X.env n .none; unbindBehindTheSuite X.env n pos') (fun _ s7 => Q s7) X.xe s6 := fun {σ6 H6 Q} S6 hq => gone_ok (S6.unsuite ok) hN hi hln hq
          cases f with
          | next =>
            obtain ⟨σ6, H6, S6, q6⟩ := hsp
            exact end_ S6 fun s7 J7 => ⟨_, _, J7, q6⟩
          | brk =>
            obtain ⟨σ6, H6, S6, q6⟩ := hsp
            exact end_ S6 fun s7 J7 => ⟨_, _, J7, q6⟩
          | cont =>
            obtain ⟨σ6, H6, S6, q6⟩ := hsp
            exact end_ S6 fun s7 J7 => ⟨_, _, J7, q6⟩
          | ret u =>
            obtain ⟨v6, σ6, H6, S6, r6, q6⟩ := hsp
            exact end_ S6 fun s7 J7 => ⟨_, _, _, J7, r6, q6⟩
        | false =>
          show wpAny _ X.A (handleBy (.ref a) X.env hds2) _ _ _
          exact ih (hno rfl)
    exact go hh w
  · cases f with
    | next =>
      obtain ⟨σ', H', J', q⟩ := hsp
      exact wpAny_execs_nil ⟨σ', H', J'.ofTry ok, q⟩
    | brk =>
      obtain ⟨σ', H', J', q⟩ := hsp
      exact ⟨σ', H', J'.ofTry ok, q⟩
    | cont =>
      obtain ⟨σ', H', J', q⟩ := hsp
      exact ⟨σ', H', J'.ofTry ok, q⟩
    | ret u =>
      obtain ⟨v, σ', H', J', r, q⟩ := hsp
      exact ⟨v, σ', H', J'.ofTry ok, r, q⟩
end
/-! ### defs and methods that may raise, called by name; the wish stands at the caller's slots -/
structure ClX (P : Program) (w : World) (K : PySem.W.Frag) (mg : Str → Option Value) (base : Heap) (k : Nat) (x : Str) (sp : Sp) : Prop where
  ex : ∃ (f : Addr) (fd : FuncData) (ps : List Str), FnOk P w K mg base (L2.CX P w) k f fd ps sp ∧ mg x = some (.ref f) ∧ PySem.W.keepIn K (.ref f) = true ∧ Binds K fd ps []
structure MtX (P : Program) (w : World) (K : PySem.W.Frag) (mg : Str → Option Value) (base : Heap) (k : Nat) (C : Addr) (m : Str) (sp : Sp) : Prop where
  ex : ∃ (f : Addr) (fd : FuncData) (ps : List Str), Cls K C ∧ Meth K C m f ∧ FnOk P w K mg base (L2.CX P w) k f fd ps sp ∧ Binds K fd ps []
/-- an own exception class of the program that is made by its own __init__ -/
structure Xk (P : Program) (w : World) (K : PySem.W.Frag) (mg : Str → Option Value) (base : Heap) (k : Nat) (x : Str) (C : Addr) (sp : Sp) : Prop where
  oe : OexC K C
  ex : ∃ (f : Addr) (fd : FuncData) (ps : List Str), PySem.W.findIn K (.ref C) "__init__" = some (some (.ref f)) ∧ PySem.W.typeIn K (.ref f) = some (.type "function") ∧ FnOk P w K mg base CX0 k f fd ps sp ∧ Binds K fd ps [] ∧ mg x = some (.ref C)
section
variable {P : Program} {w : World} {K : PySem.W.Frag} {mg : Str → Option Value} {base : Heap}
theorem clX_of {k : Nat} {x : Str} {sp : Sp} {st : Stmt} {f : Addr} {fd : FuncData} {ps : List Str} (ok : FnOk P w K mg base (L2.CX P w) k f fd ps sp) (F : Fun K x x st f fd) (g : mg x = some (.ref f)) (b : Binds K fd ps []) : ClX P w K mg base k x sp := ⟨f, fd, ps, ok, g, F.kp, b⟩
end
def tMethX (C : Addr) (m : Str) (sp : Sp) (E : L2.St → XK) (ta : TE) (t : TA) : TE := fun σ H Q => ta σ H fun x H1 => ∃ a dx fs, x = .ref a ∧ H1 a = some (.ins C dx fs) ∧ fs.lookup m = none ∧ t σ H1 fun vs H2 => sp (.ref a :: vs) H2 Q (E σ)
section
variable {X : Cx} {W : WX} {k j : Nat} {x m : Str} {sp : Sp} {p pos apos : Pos} {e o : Expr} {es : List Expr} {ta : TE} {t : TA} {C : Addr}
theorem pe_clX (c : ClX X.prog X.w X.K X.mg X.base k x sp) (hr : Room j X.A) (hk : k ≤ j) (hg : Gl X x) (tk : Takes X W) (ha : PA X (e :: es) t)
    (hdb : (x == ("__debug__" : Str)) = false := by decide) (he : starEach (e :: es) X.env = (false, eval e X.env) :: starEach es X.env := by rfl) (hpl : (backTo pos (starEach es X.env)).any (·.1) = false := by rfl) :
    PE X (.Call (.Name x p) (e :: es) [] pos) (tCallS sp (WE W) t) := by
  obtain ⟨f, fd, ps, F, hm, kp, b⟩ := c.ex
  exact pe_callS F (hr.mono hk) hg hm kp b (fun σ => passAt tk σ) ha hdb he hpl
theorem pe_mtX {pl : Sem Bool} (c : MtX X.prog X.w X.K X.mg X.base k C m sp) (hr : Room j X.A) (hk : k ≤ j) (tk : Takes X W) (he : PE X o ta) (ha : PA X (e :: es) t)
    (hst : starEach (e :: es) X.env = (false, eval e X.env) :: starEach es X.env := by rfl) (hpl : (backTo pos (starEach es X.env)).any (·.1) = false := by rfl)
    (ht : eval (.Call (.Attribute o m apos) (e :: es) [] pos) X.env = (do
      let ov ← eval o X.env
      standAt apos.atName
      let (f, first) ← holding [ov] (getMethod ov m pl)
      callWith pos f first (backTo pos (starEach (e :: es) X.env)) (backToKw pos (keywordEach [] X.env))) := by rfl) :
    PE X (.Call (.Attribute o m apos) (e :: es) [] pos) (tMethX C m sp (WE W) ta t) := by
  obtain ⟨f, fd, ps, hc, hm, F, b⟩ := c.ex
  refine ⟨fun pins s σ H Q I h => ?_⟩
  refine PySem.W.methodCall_KW (pl := pl) (thn (he.run pins s σ H _ I h) fun u s1 ⟨x, H1, I1, rx, a, dx, fs, ex, ea, l, q⟩ => ?_) ht
  subst ex
  obtain rfl : u = Value.ref a := rx
  refine getmeth_ok I1 ea hc hm l ?_
  refine PySem.W.callWith_K (first := [.ref a]) (h₀ := X.base) I.ok.mod.kin hm.kp (thn (ha.run pos pins s1 σ H1 _ I1 q) fun us s2 ⟨vs, H2, I2, r, q2⟩ => ⟨I2.kIn, ?_⟩) hst hpl
  exact run_fnS (us := .ref a :: us) (vs := .ref a :: vs) F (hr.mono hk) b (passAt tk σ) I2 (.cons rfl r) q2
/-- raise C(e, ..) -/
theorem ps_xk (c : Xk X.prog X.w X.K X.mg X.base k x C sp) (hr : Room j X.A) (hk : k + 1 ≤ j) (hc : X.calm = true) (tk : Takes X W) (hg : Gl X x) (ha : PA X (e :: es) t)
    (hdb : (x == ("__debug__" : Str)) = false := by decide) (he : starEach (e :: es) X.env = (false, eval e X.env) :: starEach es X.env := by rfl) (hpl : (backTo pos (starEach es X.env)).any (·.1) = false := by rfl) :
    PS X (.Raise (some (.Call (.Name x p) (e :: es) [] pos)) none apos) (fun _ σ H => tMkO C sp [] t σ H (fun cls d H' => W cls d σ H')) := by
  obtain ⟨fI, fd, ps, iC, tI, F, b, gC⟩ := c.ex
  exact ps_raise hc tk (pmk_oex c.oe iC tI F (hr.mono hk) b .nil pass0 hg gC ha hdb he hpl)
end
end Kn
/-! ### own exceptions: facts, f-strings, __init__ with one field and with four, raising -/
namespace Kn
open PySem PySem.Spec PyProof.Rows L2 Evl SX
section
variable {K : PySem.W.Frag}
theorem kit_ref {C B : Addr} {b : Bool} (hd : PySem.W.hasDictIn K B = true) (ht : PySem.W.typeIn K (.ref B) = some (.type "type")) (hs : PySem.W.subIn K (.ref C) (.ref B) = some b) (hcc : PySem.W.subIn K (.ref C) (.ref C) = some true) : PySem.W.kitOne K (.ref C) (.ref B) = some b := by
  unfold PySem.W.kitOne
  by_cases h : C = B
  · subst h
    rw [if_pos (beq_self_eq_true _)]
    exact hcc.symm.trans hs
  · rw [if_neg (fun z => h (Value.ref.inj (beq_iff_eq.mp z)))]
    obtain ⟨cd, hc, _⟩ := PySem.W.any_some hd
    show (if ((PySem.W.clsIn K B).isSome && PySem.W.typeIn K (.ref B) == some (.type "type")) = true then PySem.W.subIn K (.ref C) (.ref B) else none) = some b
    rw [if_pos (by rw [hc, ht]; rfl)]
    exact hs
structure Xc (K : PySem.W.Frag) (C B : Addr) : Prop where
  oe : OexC K C
  xc : ExcC K C
  xf : XfC K C
  me : PySem.W.exmOne K (.ref C) (.ref C) = some true
  kB : PySem.W.kitOne K (.ref C) (.ref B) = some true
end
section
variable {K : PySem.W.Frag} {σ : L2.St} {H H' H1 : Hp} {te t1 t2 t3 t4 : TE}
theorem ev_fmtS {l : List Nat} (h : Ev te σ H (.str (S l))) (hl : l.length ≤ 100000) : Ev (tFmt te) σ H (.str (S l)) := fun H1 e Q q => h H1 e _ fun H2 e2 => .inl ⟨S l, rfl, by rw [S_len]; exact sz_of hl, q H2 e2⟩
theorem ev_fmtI {n : Nat} (h : Ev te σ H (.int (n : Int))) (hn : n < 10 ^ 9) : Ev (tFmt te) σ H (.str (S (TL.numL n))) := fun H1 e Q q => h H1 e _ fun H2 e2 => .inr ⟨(n : Int), rfl, by
  rw [Int.natAbs_natCast]
  have : n.log2 < 100 := by
    by_cases h0 : n = 0
    · subst h0
      decide
    · exact (Nat.log2_lt h0).mpr (Nat.lt_trans hn (by decide))
  omega, by
  have z := num_S n
  rw [← z] at q
  exact q H2 e2⟩
theorem js_run : ∀ {ts : List TE} {ls : List (List Nat)}, Paired (fun t l => Ev t σ H (.str (S l))) ts ls → ∀ (acc : List Nat) (H1 : Hp), Ex H H1 → acc.length + (ls.map (·.length)).sum ≤ 100000 → ∀ Q : Str → Hp → Prop, (∀ H2, Ex H1 H2 → Q (S (acc ++ ls.flatten)) H2) → tJs ts (S acc) σ H1 Q
  | [], [], .nil, acc, H1, e, _, Q, q => by
    rw [List.flatten_nil, List.append_nil] at q
    exact q H1 (Ex.refl H1)
  | t :: ts, l :: ls, .cons h r, acc, H1, e, hz, Q, q => h H1 e _ fun H2 e2 => by
    rw [List.map_cons, List.sum_cons] at hz
    refine ⟨S l, rfl, ?_, ?_⟩
    · rw [S_cat, S_len, List.length_append]
      exact sz_of (by omega)
    · rw [S_cat]
      refine js_run r (acc ++ l) H2 (e.trans e2) (by rw [List.length_append]; omega) Q fun H3 e3 => ?_
      rw [List.append_assoc, ← List.flatten_cons]
      exact q H3 (e2.trans e3)
theorem ev_js {ts : List TE} {ls : List (List Nat)} (h : Paired (fun t l => Ev t σ H (.str (S l))) ts ls) (hz : (ls.map (·.length)).sum ≤ 100000) : Ev (fun σ H Q => tJs ts Str.empty σ H fun out H1 => Q (.str out) H1) σ H (.str (S ls.flatten)) := fun H1 e Q q => by
  have z : Str.empty = S [] := rfl
  show tJs ts Str.empty σ H1 _
  rw [z]
  exact js_run h [] H1 e (by rw [List.length_nil]; omega) _ fun H2 e2 => q H2 e2
/-- Base.__init__(self, text) -/
theorem q_beinit {D : Ends} {tz : TS} {a C : Addr} {ta tb : TE} {l : List Nat} (ha : Ev ta σ H (.ref a)) (hb : Ev tb σ H (.str (S l))) (oe : OexC K C) (ho : H a = some (exo a C none)) (k : ∀ H1, Ex H H1 → tz D σ H1) : tSeq (tDrop (tVeI K (tCons ta (tCons tb tNil)))) tz D σ H :=
  ha H (Ex.refl H) _ fun H1 e1 => hb H1 e1 _ fun H2 e2 => ⟨a, C, [.str (S l)], rfl, (by show 1 ≤ 1000; decide), oe, e2 _ _ (e1 _ _ ho), k H2 (e1.trans e2)⟩
/-- an exception's new dict at dx: the fields -/
def XMade (H H' : Hp) (a C dx : Addr) (fs : List (Str × V)) : Prop := H' a = some (exo a C (some dx)) ∧ H' dx = some (exd dx fs) ∧ ∀ b o, b ≠ a → b ≠ dx → H b = some o → H' b = some o
def sp_I1 (f : Str) (K : PySem.W.Frag) : Sp := fun vs H Q _ => ∃ (a C : Addr) (l : List Nat), vs = [.ref a, .str (S l)] ∧ l.length ≤ 90000 ∧ H a = some (exo a C none) ∧ OexC K C ∧ PySem.W.findIn K (.ref C) f = some none ∧
  ∀ dx H', H dx = none → dx ≠ a → XMade H H' a C dx [(f, .str (S l))] → Q .non H'
theorem xmade_new {a C dx : Addr} {f : Str} {v : V} (e : Ex H H1) (ne : dx ≠ a) : XMade H (upd (upd H1 dx (exd dx [(f, v)])) a (exo a C (some dx))) a C dx [(f, v)] :=
  ⟨upd_same, by rw [upd_ne ne, upd_same], fun b o h1 h2 h => by rw [upd_ne h1, upd_ne h2]; exact e _ _ h⟩
theorem XMade.more {a C dx : Addr} {fs : List (Str × V)} {f : Str} {v : V} (m : XMade H H1 a C dx fs) (ne : dx ≠ a) (e : Ex H1 H') : XMade H (upd H' dx (exd dx ((f, v) :: fs))) a C dx ((f, v) :: fs) :=
  ⟨by rw [upd_ne (Ne.symm ne)]; exact e _ _ m.1, upd_same, fun b o h1 h2 h => by rw [upd_ne h2]; exact e _ _ (m.2.2 b o h1 h2 h)⟩
theorem xm_raise {W : WX} {a C dx : Addr} {fs : List (Str × V)} {H2 : Hp} (e2 : Ex H H2) (na : H2 a = none) (nd : H2 dx = none) (m : XMade (upd H2 a (exo a C none)) H' a C dx fs) (hk : ∀ d H', Ex H H' → H' d = some (.xd fs) → W (.ref C) (some d) σ H') : W (.ref C) (some dx) σ (upd (del H' a) dx (.xd fs)) := by
  refine hk dx _ (fun b o hb => ?_) upd_same
  have hb2 := e2 _ _ hb
  have n1 := ne_of_none hb2 nd
  have n2 := ne_of_none hb2 na
  rw [upd_ne n1, del_ne n2]
  exact m.2.2 b o n2 n1 (by rw [upd_ne n2]; exact hb2)
theorem raise1 {W : WX} {C : Addr} {f : Str} {l : List Nat} (oe : OexC K C) (nf : PySem.W.findIn K (.ref C) f = some none) (hl : l.length ≤ 90000) (hv : Ev te σ H (.str (S l)))
    (hk : ∀ d H', Ex H H' → H' d = some (.xd [(f, .str (S l))]) → W (.ref C) (some d) σ H') : tMkO C (sp_I1 f K) [] (tCons te tNil) σ H (fun cls d H' => W cls d σ H') :=
  hv H (Ex.refl _) _ fun H2 e2 => ⟨(by show 1 ≤ 1000; decide), fun a na => ⟨a, C, l, rfl, hl, upd_same, oe, nf, fun dx H' hdx ne m =>
    ⟨rfl, dx, _, m.1, m.2.1, upd_none hdx, xm_raise e2 na (upd_none hdx) m hk⟩⟩⟩
theorem init1_body {D : Ends} {f : Str} {a C : Addr} {l m : List Nat} {tj : TE} (hj : Ev tj [some (.ref a), some (.str (S l))] H (.str (S m))) (ha : H a = some (exo a C none)) (oe : OexC K C) (nf : PySem.W.findIn K (.ref C) f = some none)
    (q : ∀ dx H', H dx = none → dx ≠ a → XMade H H' a C dx [(f, .str (S l))] → D.nx [some (.ref a), some (.str (S l))] H') : tSeq (tDrop (tVeI K (tCons (tVar 0) (tCons tj tNil)))) (tOst K f (tVar 0) (tVar 1)) D [some (.ref a), some (.str (S l))] H := by
  refine q_beinit (ev_var rfl) hj oe ha fun H1 e1 => ?_
  exact ⟨_, rfl, _, rfl, a, C, rfl, oe, nf, .inl ⟨e1 _ _ ha, fun dx hd ne => q dx _ (fresh_back e1 hd) ne (xmade_new e1 ne)⟩⟩
/-- path, line, column, reason -/
def fs4 (p : List Nat) (n c : Nat) (r : List Nat) : List (Str × V) := [("reason", .str (S r)), ("column", .int (c : Int)), ("line", .int (n : Int)), ("path", .str (S p))]
structure Nf4 (K : PySem.W.Frag) (C : Addr) : Prop where
  p : PySem.W.findIn K (.ref C) "path" = some none
  l : PySem.W.findIn K (.ref C) "line" = some none
  c : PySem.W.findIn K (.ref C) "column" = some none
  r : PySem.W.findIn K (.ref C) "reason" = some none
def Sm4 (p : List Nat) (n c : Nat) (r : List Nat) : Prop := p.length ≤ 9000 ∧ r.length ≤ 9000 ∧ n < 10 ^ 9 ∧ c < 10 ^ 9
def sp_I4 (K : PySem.W.Frag) : Sp := fun vs H Q _ => ∃ (a C : Addr) (p : List Nat) (n c : Nat) (r : List Nat), vs = [.ref a, .str (S p), .int (n : Int), .int (c : Int), .str (S r)] ∧ Sm4 p n c r ∧ H a = some (exo a C none) ∧ OexC K C ∧ Nf4 K C ∧
  ∀ dx H', H dx = none → dx ≠ a → XMade H H' a C dx (fs4 p n c r) → Q .non H'
theorem raise4 {W : WX} {C : Addr} {p r : List Nat} {n c : Nat} (oe : OexC K C) (nf : Nf4 K C) (hl : Sm4 p n c r) (h1 : Ev t1 σ H (.str (S p))) (h2 : Ev t2 σ H (.int (n : Int))) (h3 : Ev t3 σ H (.int (c : Int))) (h4 : Ev t4 σ H (.str (S r)))
    (hk : ∀ d H', Ex H H' → H' d = some (.xd (fs4 p n c r)) → W (.ref C) (some d) σ H') : tMkO C (sp_I4 K) [] (tCons t1 (tCons t2 (tCons t3 (tCons t4 tNil)))) σ H (fun cls d H' => W cls d σ H') :=
  ea_cons h1 (ea_cons h2 (ea_cons h3 (ea_cons h4 ea_nil))) H (Ex.refl _) _ fun H2 e2 => ⟨(by show 4 ≤ 1000; decide), fun a na => ⟨a, C, p, n, c, r, rfl, hl, upd_same, oe, nf, fun dx H' hdx ne m =>
    ⟨rfl, dx, _, m.1, m.2.1, upd_none hdx, xm_raise e2 na (upd_none hdx) m hk⟩⟩⟩
theorem init4_body {D : Ends} {a C : Addr} {p r m : List Nat} {n c : Nat} {tj : TE} {σ0 : L2.St} (hσ : σ0 = [some (.ref a), some (.str (S p)), some (.int (n : Int)), some (.int (c : Int)), some (.str (S r))]) (hj : Ev tj σ0 H (.str (S m))) (ha : H a = some (exo a C none)) (oe : OexC K C) (nf : Nf4 K C)
    (q : ∀ dx H', H dx = none → dx ≠ a → XMade H H' a C dx (fs4 p n c r) → D.nx σ0 H') : tSeq (tDrop (tVeI K (tCons (tVar 0) (tCons tj tNil)))) (tSeq (tOst K "path" (tVar 0) (tVar 1)) (tSeq (tOst K "line" (tVar 0) (tVar 2)) (tSeq (tOst K "column" (tVar 0) (tVar 3)) (tOst K "reason" (tVar 0) (tVar 4))))) D σ0 H := by
  subst hσ
  refine q_beinit (ev_var rfl) hj oe ha fun H1 e1 => ?_
  refine ⟨_, rfl, _, rfl, a, C, rfl, oe, nf.p, .inl ⟨e1 _ _ ha, fun dx hd ne => ?_⟩⟩
  have m1 := xmade_new (C := C) (f := "path") (v := .str (S p)) e1 ne
  refine ⟨_, rfl, _, rfl, a, C, rfl, oe, nf.l, .inr ⟨dx, _, m1.1, m1.2.1, (by show 1 ≤ 900; decide), ?_⟩⟩
  have m2 := m1.more (f := "line") (v := .int (n : Int)) ne (Ex.refl _)
  refine ⟨_, rfl, _, rfl, a, C, rfl, oe, nf.c, .inr ⟨dx, _, m2.1, m2.2.1, (by show 2 ≤ 900; decide), ?_⟩⟩
  have m3 := m2.more (f := "column") (v := .int (c : Int)) ne (Ex.refl _)
  refine ⟨_, rfl, _, rfl, a, C, rfl, oe, nf.r, .inr ⟨dx, _, m3.1, m3.2.1, (by show 3 ≤ 900; decide), ?_⟩⟩
  exact q dx _ (fresh_back e1 hd) ne (m3.more ne (Ex.refl _))
end
end Kn
/-! ### data at any depth, all of it tracked -/
namespace Kn
open PySem PySem.Spec PyProof.Rows L2 Evl SX
mutual
inductive Dt (H : Hp) : V → PyData → Prop
  | non : Dt H .non .none
  | bl (b : Bool) : Dt H (.bl b) (.bool b)
  | int (i : Int) : Dt H (.int i) (.int i)
  | str (x : Str) : Dt H (.str x) (.str x)
  | lst {a : Addr} {xs : List V} {ds : List PyData} : H a = some (.lst xs) → DtA H xs ds → Dt H (.ref a) (.list ds)
  | tup {a : Addr} {xs : List V} {ds : List PyData} : H a = some (.tup xs) → DtA H xs ds → Dt H (.ref a) (.tuple ds)
inductive DtA (H : Hp) : List V → List PyData → Prop
  | nil : DtA H [] []
  | cons {v : V} {vs : List V} {d : PyData} {ds : List PyData} : Dt H v d → DtA H vs ds → DtA H (v :: vs) (d :: ds)
end
mutual
theorem Dt.mono {H H1 : Hp} (e : Ex H H1) : ∀ {v : V} {d : PyData}, Dt H v d → Dt H1 v d
  | _, _, .non => .non
  | _, _, .bl b => .bl b
  | _, _, .int i => .int i
  | _, _, .str x => .str x
  | _, _, .lst h r => .lst (e _ _ h) (DtA.mono e r)
  | _, _, .tup h r => .tup (e _ _ h) (DtA.mono e r)
theorem DtA.mono {H H1 : Hp} (e : Ex H H1) : ∀ {vs : List V} {ds : List PyData}, DtA H vs ds → DtA H1 vs ds
  | _, _, .nil => .nil
  | _, _, .cons h r => .cons (Dt.mono e h) (DtA.mono e r)
end
mutual
theorem Dt.dp {K : PySem.W.Frag} {H : Hp} : ∀ {v : V} {d : PyData}, Dt H v d → Dp K H v d
  | _, _, .non => .non
  | _, _, .bl b => .bl b
  | _, _, .int i => .int i
  | _, _, .str x => .str x
  | _, _, .lst h r => .lst (sq_of h) (DtA.dp r)
  | _, _, .tup h r => .tup (st_of h) (DtA.dp r)
theorem DtA.dp {K : PySem.W.Frag} {H : Hp} : ∀ {vs : List V} {ds : List PyData}, DtA H vs ds → DpAll K H vs ds
  | _, _, .nil => .nil
  | _, _, .cons h r => .cons (Dt.dp h) (DtA.dp r)
end
mutual
/-- no list in it -/
def noL : PyData → Bool
  | .list _ => false
  | .dict _ => false
  | .tuple ds => noLA ds
  | .none => true
  | .bool _ => true
  | .int _ => true
  | .str _ => true
def noLA : List PyData → Bool
  | [] => true
  | d :: ds => noL d && noLA ds
end
mutual
/-- what has no list in it does not see that a list changes -/
theorem Dt.upd {H : Hp} {p : Addr} {o o' : HO} (hp : H p = some o) (ho : ∀ xs, o ≠ .tup xs) : ∀ {v : V} {d : PyData}, Dt H v d → noL d = true → Dt (L2.upd H p o') v d
  | _, _, .non, _ => .non
  | _, _, .bl b, _ => .bl b
  | _, _, .int i, _ => .int i
  | _, _, .str x, _ => .str x
  | _, _, .lst _ _, h => by
    unfold noL at h
    cases h
  | _, _, .tup h r, n => by
    unfold noL at n
    exact .tup (by rw [upd_ne (ne_of h hp fun z => ho _ z.symm)]; exact h) (DtA.upd hp ho r n)
theorem DtA.upd {H : Hp} {p : Addr} {o o' : HO} (hp : H p = some o) (ho : ∀ xs, o ≠ .tup xs) : ∀ {vs : List V} {ds : List PyData}, DtA H vs ds → noLA ds = true → DtA (L2.upd H p o') vs ds
  | _, _, .nil, _ => .nil
  | _, _, .cons h r, n => by
    unfold noLA at n
    rw [Bool.and_eq_true] at n
    exact .cons (Dt.upd hp ho h n.1) (DtA.upd hp ho r n.2)
end
theorem DtA.len {H : Hp} : ∀ {vs : List V} {ds : List PyData}, DtA H vs ds → vs.length = ds.length
  | _, _, .nil => rfl
  | _, _, .cons _ r => by rw [List.length_cons, List.length_cons, DtA.len r]
theorem DtA.snoc {H : Hp} {v : V} {d : PyData} (h : Dt H v d) : ∀ {vs : List V} {ds : List PyData}, DtA H vs ds → DtA H (vs ++ [v]) (ds ++ [d])
  | _, _, .nil => .cons h .nil
  | _, _, .cons a r => .cons a (DtA.snoc h r)
theorem DtA.app {H : Hp} {vs2 : List V} {ds2 : List PyData} (h : DtA H vs2 ds2) : ∀ {vs : List V} {ds : List PyData}, DtA H vs ds → DtA H (vs ++ vs2) (ds ++ ds2)
  | _, _, .nil => h
  | _, _, .cons a r => .cons a (DtA.app h r)
theorem DtA.get {H : Hp} : ∀ {vs : List V} {ds : List PyData}, DtA H vs ds → ∀ (i : Nat) (d : PyData), ds[i]? = some d → ∃ v, vs[i]? = some v ∧ Dt H v d
  | _, _, .cons (v := v) h r, 0, d', e => by
    cases Option.some.inj e
    exact ⟨v, rfl, h⟩
  | _, _, .cons h r, i + 1, d', e => by
    obtain ⟨v, e1, h1⟩ := DtA.get r i d' (by simpa using e)
    exact ⟨v, by simpa using e1, h1⟩
  | _, _, .nil, _, _, e => by simp at e
theorem DtA.drop {H : Hp} : ∀ {vs : List V} {ds : List PyData} (n : Nat), DtA H vs ds → DtA H (vs.drop n) (ds.drop n)
  | _, _, 0, h => h
  | _, _, n + 1, .nil => .nil
  | _, _, n + 1, .cons _ r => DtA.drop n r
theorem Dt.tup_inv {H : Hp} {v : V} {ds : List PyData} (h : Dt H v (.tuple ds)) : ∃ a xs, v = .ref a ∧ H a = some (.tup xs) ∧ DtA H xs ds := by
  cases h with
  | tup h r => exact ⟨_, _, rfl, h, r⟩
theorem Dt.lst_inv {H : Hp} {v : V} {ds : List PyData} (h : Dt H v (.list ds)) : ∃ a xs, v = .ref a ∧ H a = some (.lst xs) ∧ DtA H xs ds := by
  cases h with
  | lst h r => exact ⟨_, _, rfl, h, r⟩
theorem Dt.str_inv {H : Hp} {v : V} {x : Str} (h : Dt H v (.str x)) : v = .str x := by cases h; rfl
theorem Dt.int_inv {H : Hp} {v : V} {x : Int} (h : Dt H v (.int x)) : v = .int x := by cases h; rfl
theorem Dt.bl_inv {H : Hp} {v : V} {x : Bool} (h : Dt H v (.bool x)) : v = .bl x := by cases h; rfl
theorem Dt.non_inv {H : Hp} {v : V} (h : Dt H v .none) : v = .non := by cases h; rfl
def EvD (te : TE) (σ : L2.St) (H : Hp) (d : PyData) : Prop := ∀ H1, Ex H H1 → ∀ Q : VK, (∀ v H2, Ex H1 H2 → Dt H2 v d → Q v H2) → te σ H1 Q
def EvDA (ta : TA) (σ : L2.St) (H : Hp) (ds : List PyData) : Prop := ∀ H1, Ex H H1 → ∀ Q : List V → Hp → Prop, (∀ vs H2, Ex H1 H2 → DtA H2 vs ds → Q vs H2) → ta σ H1 Q
def RtD (H : Hp) (d : PyData) (Q : VK) : Prop := ∀ v H1, Ex H H1 → Dt H1 v d → Q v H1
theorem RtD.mono {H H1 : Hp} {d : PyData} {Q : VK} (q : RtD H d Q) (e : Ex H H1) : RtD H1 d Q := fun v H2 e2 h => q v H2 (e.trans e2) h
section
variable {K : PySem.W.Frag} {σ : L2.St} {H H' : Hp} {ta tb te : TE} {t u : TT} {x y z v : V} {d e' : PyData} {tas tr : TA} {D : Ends} {tz tu : TS} {ds : List PyData}
theorem evd_of (h : Ev te σ H v) (hd : Dt H v d) : EvD te σ H d := fun H1 e Q q => h H1 e _ fun H2 e2 => q v H2 e2 (hd.mono (e.trans e2))
theorem evd_is (h : EvD te σ H d) (e : d = e') : EvD te σ H e' := by rw [← e]; exact h
theorem EvD.mono (e : Ex H H') (h : EvD te σ H d) : EvD te σ H' d := fun H1 a Q q => h H1 (e.trans a) Q q
theorem evd_str {l : List Nat} (h : Ev te σ H (.str (S l))) : EvD te σ H (.str (S l)) := evd_of h (.str _)
theorem evd_int {i : Int} (h : Ev te σ H (.int i)) : EvD te σ H (.int i) := evd_of h (.int _)
theorem evd_bl {b : Bool} (h : Ev te σ H (.bl b)) : EvD te σ H (.bool b) := evd_of h (.bl _)
theorem evd_cS {s : Str} {l : List Nat} (h : s.cps.toList = l) : EvD (tC (.str s)) σ H (.str (S l)) := evd_str (ev_cS h)
theorem ev_ofS {l : List Nat} (h : EvD te σ H (.str (S l))) : Ev te σ H (.str (S l)) := fun H1 e Q q => h H1 e _ fun v H2 e2 hv => by
  rw [hv.str_inv]
  exact q H2 e2
theorem ev_ofI {i : Int} (h : EvD te σ H (.int i)) : Ev te σ H (.int i) := fun H1 e Q q => h H1 e _ fun v H2 e2 hv => by
  rw [hv.int_inv]
  exact q H2 e2
theorem eda_nil : EvDA tNil σ H [] := fun H1 _ _ q => q [] H1 (Ex.refl H1) .nil
theorem eda_cons (h : EvD te σ H d) (hr : EvDA tr σ H ds) : EvDA (tCons te tr) σ H (d :: ds) := fun H1 e Q q => h H1 e _ fun v H2 e2 hv => hr H2 (e.trans e2) _ fun vs H3 e3 hvs => q _ H3 (e2.trans e3) (.cons (hv.mono e3) hvs)
theorem evd_tup (h : EvDA tas σ H ds) (hl : ds.length ≤ 100000) : EvD (tTup tas) σ H (.tuple ds) := fun H1 e Q q => h H1 e _ fun vs H2 e2 hvs => ⟨by rw [hvs.len]; exact sz_of hl, fun p hp => q _ _ (e2.trans (Ex.new hp)) (.tup upd_same (hvs.mono (Ex.new hp)))⟩
theorem evd_lst (h : EvDA tas σ H ds) (hl : ds.length ≤ 100000) : EvD (tLst tas) σ H (.list ds) := fun H1 e Q q => h H1 e _ fun vs H2 e2 hvs => ⟨by rw [hvs.len]; exact sz_of hl, fun p hp => q _ _ (e2.trans (Ex.new hp)) (.lst upd_same (hvs.mono (Ex.new hp)))⟩
theorem ev_eqD (ha : EvD ta σ H d) (hb : EvD tb σ H e') (s1 : SeqAt.shaped d = true) (s2 : SeqAt.shaped e' = true) : Ev (tOp (rEqD K) ta tb) σ H (.bl (PyData.eqv d e')) := fun H1 e Q q =>
  ha H1 e _ fun v H2 e2 hv => hb H2 (e.trans e2) _ fun w H3 e3 hw => ⟨d, e', (hv.mono e3).dp, hw.dp, s1, s2, q H3 (e2.trans e3)⟩
theorem ev_neD (ha : EvD ta σ H d) (hb : EvD tb σ H e') (s1 : SeqAt.shaped d = true) (s2 : SeqAt.shaped e' = true) : Ev (tOp (rNeD K) ta tb) σ H (.bl (!PyData.eqv d e')) := fun H1 e Q q =>
  ha H1 e _ fun v H2 e2 hv => hb H2 (e.trans e2) _ fun w H3 e3 hw => ⟨d, e', (hv.mono e3).dp, hw.dp, s1, s2, q H3 (e2.trans e3)⟩
theorem evd_ifE {b : Bool} (h : EvT t σ H b) (h1 : b = true → EvD ta σ H d) (h2 : b = false → EvD tb σ H d) : EvD (tIf t ta tb) σ H d := fun H1 e Q q => h H1 e _ fun H2 e2 => by
  cases b with
  | true =>
    show ta σ H2 Q
    exact h1 rfl H2 (e.trans e2) Q fun v H3 e3 hv => q v H3 (e2.trans e3) hv
  | false =>
    show tb σ H2 Q
    exact h2 rfl H2 (e.trans e2) Q fun v H3 e3 hv => q v H3 (e2.trans e3) hv
theorem evd_call {sp : Sp} {E : XK} {vs : List V} (h : EvA tas σ H vs) (hs : ∀ H1, Ex H H1 → ∀ (Q : VK), RtD H1 d Q → ∀ E, sp vs H1 Q E) : EvD (tCall sp [] E tas) σ H d := fun H1 e Q q => h H1 e _ fun H2 e2 => by
  rw [List.append_nil]
  exact hs H2 (e.trans e2) Q (fun v H3 e3 hv => q v H3 (e2.trans e3) hv) E
theorem evd_callD {sp : Sp} {E : XK} {es : List PyData} (h : EvDA tas σ H es) (hs : ∀ H1 vs, Ex H H1 → DtA H1 vs es → ∀ (Q : VK), RtD H1 d Q → ∀ E, sp vs H1 Q E) : EvD (tCall sp [] E tas) σ H d := fun H1 e Q q => h H1 e _ fun vs H2 e2 hvs => by
  rw [List.append_nil]
  exact hs H2 vs (e.trans e2) hvs Q (fun v H3 e3 hv => q v H3 (e2.trans e3) hv) E
theorem s_retD (h : EvD te σ H d) (k : RtD H d D.rt) : tRet te D σ H := h H (Ex.refl H) _ fun v H1 e hv => k v H1 e hv
theorem s_asgD {i : Nat} (h : EvD te σ H d) (k : ∀ v H1, Ex H H1 → Dt H1 v d → D.nx (σ.set i (some v)) H1) : tAsg te (gName i) D σ H := h H (Ex.refl H) _ fun v H1 e hv => k v H1 e hv
theorem q_asgD {i : Nat} (h : EvD te σ H d) (k : ∀ v H1, Ex H H1 → Dt H1 v d → tz D (σ.set i (some v)) H1) : tSeq (tAsg te (gName i)) tz D σ H := s_asgD (D := { D with nx := tz D }) h k
theorem evd_ixT {p : Addr} {xs : List V} {i : Nat} {j : Int} (ha : Ev ta σ H (.ref p)) (hp : H p = some (.tup xs)) (hx : DtA H xs ds) (hb : Ev tb σ H (.int j)) (hj : j = (i : Int)) (hd : ds[i]? = some d) : EvD (tOp (rIxT K) ta tb) σ H d := by
  obtain ⟨v, hv, hdv⟩ := hx.get i d hd
  subst hj
  exact evd_of (ev_op ha hb (rv_ixT (st_of hp) (atI_nat hv))) hdv
theorem evd_ixL {p : Addr} {xs : List V} {i : Nat} {j : Int} (ha : Ev ta σ H (.ref p)) (hp : H p = some (.lst xs)) (hx : DtA H xs ds) (hb : Ev tb σ H (.int j)) (hj : j = (i : Int)) (hd : ds[i]? = some d) : EvD (tOp (rIxL K) ta tb) σ H d := by
  obtain ⟨v, hv, hdv⟩ := hx.get i d hd
  subst hj
  exact evd_of (ev_op ha hb (rv_ixL (sq_of hp) (atI_nat hv))) hdv
end
/-- strings as data -/
def okS (l : List Nat) : Bool := l.all fun c => decide (c < 1114112)
theorem canS {l : List Nat} (h : okS l = true) : PyData.canLay0 (.str (S l)) = true := by
  unfold PyData.canLay0 PyData.strOk
  rw [show (S l).cps = l.toArray from rfl]
  simpa [okS] using h
theorem eqv_str (a b : List Nat) : PyData.eqv (.str (S a)) (.str (S b)) = decide (a = b) := by
  unfold PyData.eqv
  by_cases h : a = b
  · subst h
    simp
  · rw [decide_eq_false h]
    exact beq_eq_false_iff_ne.mpr fun z => h (S_inj z)
end Kn
/-! ### sorted texts -/
namespace Kn
open PySem PySem.Spec PyProof.Rows L2 Evl SX
def leS (a b : Str) : Prop := a.cps.toList ≤ b.cps.toList
theorem rising_pw : ∀ (r : List Str) (x : Str), risingS x r = true → List.Pairwise leS (x :: r)
  | [], x, _ => by simp
  | y :: r, x, h => by
    unfold risingS at h
    rw [Bool.and_eq_true] at h
    have hxy : leS x y := List.not_lt.mp fun z => by
      have h1 := h.1
      rw [PyProof.Rows.ltCps_eq, decide_eq_true z] at h1
      cases h1
    have ih := rising_pw r y h.2
    refine List.pairwise_cons.mpr ⟨fun z hz => ?_, ih⟩
    rcases List.mem_cons.mp hz with e | e
    · rw [e]
      exact hxy
    · exact List.le_trans hxy ((List.pairwise_cons.mp ih).1 z e)
theorem sorted_pw {l : List Str} (h : sortedS l = true) : List.Pairwise leS l := by
  cases l with
  | nil => exact .nil
  | cons x r => exact rising_pw r x h
theorem sorted_uniq {l m : List Str} (h1 : sortedS l = true) (h2 : sortedS m = true) (p : l.Perm m) : l = m :=
  List.Perm.eq_of_pairwise (le := leS) (fun a b _ _ x y => TL.ext_tl (List.le_antisymm x y)) (sorted_pw h1) (sorted_pw h2) p
end Kn
namespace Kn
open PySem PySem.Spec PyProof.Rows L2 Evl SX
section
variable {K : PySem.W.Frag} {σ : L2.St} {H H' : Hp} {ta tb td ty te : TE} {t u : TT} {x y z v : V} {d p : Addr} {kvs : List (Key × V)} {k : List Nat}
theorem ev_dnotin (h2 : Ev ty σ H (.str (S k))) (h1 : Ev td σ H (.ref d)) (hd : H d = some (.dK kvs)) : Ev (tDNotIn ty td) σ H (.bl (!(valV kvs (Sum.inr (S k))).isSome)) := fun H1 e Q q =>
  h2 H1 e _ fun H2 e2 => h1 H2 (e.trans e2) _ fun H3 e3 => ⟨d, _, rfl, DGet.k (k := (Sum.inr (S k) : Key)) (((e.trans e2).trans e3) _ _ hd), q H3 (e2.trans e3)⟩
theorem et_dnotin (h2 : Ev ty σ H (.str (S k))) (h1 : Ev td σ H (.ref d)) (hd : H d = some (.dK kvs)) : EvT (tB (tDNotIn ty td)) σ H (!(valV kvs (Sum.inr (S k))).isSome) := et_B (ev_dnotin h2 h1 hd)
/-- text * int -/
theorem rv_mulS {l : List Nat} {n : Nat} (hn : n ≤ 100000) (hl : l.length ≤ 100) : RV rMulS (.str (S l)) (.int (n : Int)) H (.str (S (List.replicate n l).flatten)) := fun H1 _ _ q => ⟨l, n, rfl, rfl, hn, hl, q H1 (Ex.refl H1)⟩
theorem flat_one (n c : Nat) : (List.replicate n [c]).flatten = List.replicate n c := by
  induction n with
  | zero => rfl
  | succ n ih => rw [List.replicate_succ, List.flatten_cons, ih, List.replicate_succ]; rfl
theorem ev_mul1 {s : Str} {c n : Nat} {i : Int} (hs : s.cps.toList = [c]) (h : Ev te σ H (.int i)) (hi : i = (n : Int)) (hn : n ≤ 100000) : Ev (tOp rMulS (tC (.str s)) te) σ H (.str (S (List.replicate n c))) := by
  rw [← flat_one]
  subst hi
  exact ev_op (ev_cS hs) h (rv_mulS hn (by show 1 ≤ 100; decide))
end
end Kn
namespace Kn
open PySem PySem.Spec PyProof.Rows L2 Evl SX
section
variable {K : PySem.W.Frag} {i : Nat} {Wout : WX} {D : Ends} {c cls : Value} {ts : Addr → Value → Option Addr → TS} {l : List (Value × (Addr → Value → Option Addr → TS))} {d : Option Addr} {σ : L2.St} {H : Hp}
theorem many_hit (h : PySem.W.exmOne K cls c = some true) (k : ∀ a, H a = none → ts a cls d { nx := fun σ' H' => D.nx (σ'.set i none) H', rt := D.rt, bk := fun σ' H' => D.bk (σ'.set i none) H', ct := fun σ' H' => D.ct (σ'.set i none) H' } (σ.set i (some (.ref a))) H) :
    wManyAs K i Wout D ((c, ts) :: l) cls d σ H := ⟨true, h, (fun _ a na => k a na), (fun z => nomatch z)⟩
theorem many_skip (h : PySem.W.exmOne K cls c = some false) (k : wManyAs K i Wout D l cls d σ H) : wManyAs K i Wout D ((c, ts) :: l) cls d σ H := ⟨false, h, (fun z => nomatch z), fun _ => k⟩
theorem as_hit (h : PySem.W.exmOne K cls c = some true) (k : ∀ a, H a = none → ts a cls d { nx := fun σ' H' => D.nx (σ'.set i none) H', rt := D.rt, bk := fun σ' H' => D.bk (σ'.set i none) H', ct := fun σ' H' => D.ct (σ'.set i none) H' } (σ.set i (some (.ref a))) H) :
    wAs K c i ts Wout D cls d σ H := ⟨true, h, (fun _ a na => k a na), (fun z => nomatch z)⟩
end
end Kn
namespace Kn
open PySem PySem.Spec PyProof.Rows L2 Evl SX
mutual
theorem Dt.tups {H H1 : Hp} (e : ∀ q xs, H q = some (.tup xs) → H1 q = some (.tup xs)) : ∀ {v : V} {d : PyData}, Dt H v d → noL d = true → Dt H1 v d
  | _, _, .non, _ => .non
  | _, _, .bl b, _ => .bl b
  | _, _, .int i, _ => .int i
  | _, _, .str x, _ => .str x
  | _, _, .lst _ _, n => by
    unfold noL at n
    cases n
  | _, _, .tup h r, n => by
    unfold noL at n
    exact .tup (e _ _ h) (DtA.tups e r n)
theorem DtA.tups {H H1 : Hp} (e : ∀ q xs, H q = some (.tup xs) → H1 q = some (.tup xs)) : ∀ {vs : List V} {ds : List PyData}, DtA H vs ds → noLA ds = true → DtA H1 vs ds
  | _, _, .nil, _ => .nil
  | _, _, .cons h r, n => by
    unfold noLA at n
    rw [Bool.and_eq_true] at n
    exact .cons (Dt.tups e h n.1) (DtA.tups e r n.2)
end
end Kn
namespace Kn
open PySem PySem.Spec PyProof.Rows L2 Evl SX
theorem Paired.unmap {α β γ : Type} {F : α → γ → Prop} {u : β → γ} : ∀ {as : List α} {bs : List β}, Paired F as (bs.map u) → Paired (fun a b => F a (u b)) as bs
  | _, [], .nil => .nil
  | _, b :: bs, .cons h t => .cons h (Paired.unmap t)
end Kn
/-! ### sorted(d), text keys, any number -/
namespace Kn
open PySem PySem.Spec PyProof.Rows L2 Evl SX
def rSortDA (K : PySem.W.Frag) : List V → Hp → VK → Prop := fun xs H Q => ∃ (a : Addr) (kvs : List (Key × V)) (ks : List Str), xs = [.ref a] ∧ Rd H a (.dK kvs) ∧ kvs.map (·.1) = ks.map Sum.inr ∧ ks.length ≤ 100000 ∧ ∀ ys p, ys.Perm ks → sortedS ys = true → H p = none → Q (.ref p) (L2.upd H p (.lst (ys.map V.str)))
theorem cr_sortDA {X : Cx} (hcalm : X.calm = true) : CallR X (.builtin "sorted") (rSortDA X.K) := by
  intro pins s σ H xs us Q I r q
  obtain ⟨a, kvs, ks, ex, hd, hks, h64, q⟩ := q
  subst ex
  obtain ⟨u, eu, rx⟩ := vals1 r
  subst eu
  cases rx
  obtain ⟨z, lo, vs, rel, dd⟩ := dk_rd I.hok hd
  obtain ⟨ep, hat⟩ := dd.dictAt
  have hkeys : vs.map (·.1) = ks.map Sum.inr := rel.keys.symm.trans hks
  have hl : vs.length = ks.length := by
    have e := congrArg List.length hkeys
    rw [List.length_map, List.length_map] at e
    exact e
  have h16 : vs.length ≤ sizeLine := by rw [hl, sizeLine_eq]; omega
  refine Calls.call_function_entry PyProof.Rows.kind_sorted PyProof.Rows.plain_sorted PyProof.Rows.entry_sorted (PyProof.Rows.args_sorted1 _) ?_
  unfold Builtin.«sorted»
  refine wpAny_bind (m := checkCount "sorted" 1 1 _) (wpAny_pure ?_)
  refine wpAny_bind (PySem.W.kdu_collect (A := X.A.in1) (PySem.W.kdl_dict (knd := mixKind X.prog X.w) (kvs := vs) (ep := ep) lo) (I.ok.hd hcalm) hat h16 fun h' tk acc hk hacc => ?_)
  have hal : acc.toList.length = ks.length := by rw [Array.length_toList, hacc.1, hl]
  have hS : StrsAre acc.toList ks := strs_at hal fun j v e => by
    obtain ⟨k, x, e1, e2⟩ := hacc.2 j v (by rw [← Array.getElem?_toList]; exact e)
    have e3 : (vs.map (·.1))[j]? = some k := by rw [List.getElem?_map, e1]; all_goals rfl
    rw [hkeys, List.getElem?_map] at e3
    cases e4 : ks[j]? with
    | none => rw [e4] at e3; cases e3
    | some y =>
      rw [e4] at e3
      have e5 : Sum.inr y = k := Option.some.inj e3
      subst e5
      obtain ⟨t, ev⟩ := Value.isStrOf_shape (x := y) (v := v) e2
      exact ⟨y, t, rfl, ev⟩
  have I1 : Inv X pins σ H { s with heap := h', toks := tk } := I.kept hk
  refine wpAny_bind (wpAny_newList ?_ (by rw [hal, sizeLine_eq]; omega))
  have hoL : (h'.push (seqObj "list" acc.toList.toArray 0)).get? h'.objs.size = some (seqObj "list" acc.toList.toArray 0) := Heap.get?_push_size _ rfl
  show wpAny _ _ _ _ _ { s with heap := h'.push (seqObj "list" acc.toList.toArray 0), toks := tk }
  refine wpAny_bind (wpAny_holding (wpAny_call_entry PyProof.Rows.slot_list_sort ⟨_, hoL, rfl⟩ PyProof.Rows.entry_list_sort
    (list_sort_treeKAny strKind_oneLt (s := { s with heap := h'.push (seqObj "list" acc.toList.toArray 0), toks := tk }) hoL hS.keysOf (fun v₁ v₂ rest e => keyKind_strs (by rw [← e]; exact hS)) (by rw [hal, sizeLine_eq]; omega) fun st' hp hs => ⟨_, rfl, ?_⟩)
    (PyProof.Rows.args_list_sort _)))
  obtain ⟨ys, g1, g2, g3⟩ := sorted_out_str hS hp hs
  obtain ⟨e', he'⟩ := PyProof.Rows.sortedHeap_at (vs := acc.toList) (out := (arrOf st').map (·.2)) hoL
  have hlen : (ys.map V.str).length ≤ sizeLine := by
    rw [List.length_map, g2.length_eq]
    exact Evl.sz_of h64
  refine wpAny_pure ⟨_, rfl, .ref h'.objs.size, L2.upd H h'.objs.size (.lst (ys.map V.str)), I1.laid (t' := tk) (fun b u e => ?_) (Nat.le_refl _)
    (show ObjOk X.prog X.w _ _ _ (.lst (ys.map V.str)) from ⟨hlen, ((arrOf st').map (·.2)).toList, e', vals_of_strs g1, by rw [Array.toArray_toList]; exact he'⟩), rfl, q ys _ g2 g3 (I1.hok.fresh (Nat.le_refl _))⟩
  have hb : b < h'.objs.size := Heap.lt_size e
  rw [PyProof.Rows.sortedHeap_old (Nat.ne_of_lt hb) (by rw [size_push']; exact Nat.lt_succ_of_lt hb)]
  exact Heap.get?_push_of_some _ e
end Kn
namespace Kn
open PySem PySem.Spec PyProof.Rows L2 Evl SX
def rLenD : List V → Hp → VK → Prop := fun xs H Q => ∃ d kvs, xs = [.ref d] ∧ H d = some (.dK kvs) ∧ Q (.int kvs.length) H
theorem cr_lenD {X : Cx} : CallR X (.builtin "len") rLenD := call_lenD
theorem ev_lenD {σ : L2.St} {H : Hp} {td : TE} {d : Addr} {kvs : List (Key × V)} (h : Ev td σ H (.ref d)) (hd : H d = some (.dK kvs)) : Ev (tCB rLenD (tCons td tNil)) σ H (.int (kvs.length : Int)) := fun H1 e Q q => h H1 e _ fun H2 e2 => ⟨d, kvs, rfl, (e.trans e2) _ _ hd, q H2 e2⟩
end Kn
namespace Kn
open PySem PySem.Spec PyProof.Rows L2 Evl SX
section
variable {K : PySem.W.Frag} {σ : L2.St} {H : Hp} {te : TE}
/-- n % m, n // m of naturals; a sign and a number -/
theorem ev_mod {n m : Nat} {k : Int} (h : Ev te σ H (.int (n : Int))) (hk : k = (m : Int)) (hm : 0 < m) : Ev (tOp (rI (fun _ j => 0 < j) fun i j => .int (i % j)) te (tC (.int k))) σ H (.int ((n % m : Nat) : Int)) := by
  subst hk
  rw [Int.natCast_emod]
  exact ev_op h ev_c (rv_mod (by omega))
theorem ev_div {n m : Nat} {k : Int} (h : Ev te σ H (.int (n : Int))) (hk : k = (m : Int)) (hm : 0 < m ∧ m < 1073741824) : Ev (tOp (rI CDiv fun i j => .int (i / j)) te (tC (.int k))) σ H (.int ((n / m : Nat) : Int)) := by
  subst hk
  rw [Int.natCast_ediv]
  exact ev_op h ev_c (rv_fdiv ⟨by omega, by omega⟩)
theorem ev_nm {s : Str} {n : Nat} {c : Nat} (hs : s.cps.toList = [c]) (hn : n < 1000) (h : Ev te σ H (.int (n : Int))) : Ev (tOp rAddS (tC (.str s)) (tCB rStrInt (tCons te tNil))) σ H (.str (S ([c] ++ TL.numL n))) := by
  have hl : (TL.numL n).length ≤ 3 := by
    have z : ∀ m < 1000, (TL.numL m).length ≤ 3 := by decide +kernel
    exact z n hn
  exact ev_op (ev_cS hs) (ev_strInt h hn) (rv_addS (by rw [List.length_singleton]; omega))
theorem et_eqN {n m : Nat} {k : Int} (h : Ev te σ H (.int (n : Int))) (hk : k = (m : Int)) : EvT (tTest (tOp rEq te (tC (.int k)))) σ H (decide (n = m)) := by
  subst hk
  exact et_is (et_test (ev_op h ev_c rv_eqI)) (by rw [decide_eq_decide]; omega)
theorem ev_eqN {n m : Nat} {k : Int} (h : Ev te σ H (.int (n : Int))) (hk : k = (m : Int)) : Ev (tOp rEq te (tC (.int k))) σ H (.bl (decide (n = m))) := by
  subst hk
  exact ev_is (ev_op h ev_c rv_eqI) (by rw [show decide ((n : Int) = (m : Int)) = decide (n = m) from by rw [decide_eq_decide]; omega])
theorem et_ltN {n m : Nat} {k : Int} (h : Ev te σ H (.int (n : Int))) (hk : k = (m : Int)) : EvT (tTest (tOp (rI0 fun i j => .bl (decide (i < j))) te (tC (.int k)))) σ H (decide (n < m)) := by
  subst hk
  exact et_is (et_test (ev_op h ev_c rv_lt)) (by rw [decide_eq_decide]; omega)
end
theorem shaped_tup {ds : List PyData} (h : PyData.canLayAll0 ds = true) (hd : PyData.depth (.tuple ds) ≤ 64) : SeqAt.shaped (.tuple ds) = true := by
  show (PyData.canLayAll0 ds && decide (PyData.depth (.tuple ds) ≤ 64)) = true
  rw [h, decide_eq_true hd]
  rfl
theorem shaped_lst {ds : List PyData} (h : PyData.canLayAll0 ds = true) (hd : PyData.depth (.list ds) ≤ 64) : SeqAt.shaped (.list ds) = true := by
  show (PyData.canLayAll0 ds && decide (PyData.depth (.list ds) ≤ 64)) = true
  rw [h, decide_eq_true hd]
  rfl
theorem can_cons {d : PyData} {ds : List PyData} (h : PyData.canLay0 d = true) (r : PyData.canLayAll0 ds = true) : PyData.canLayAll0 (d :: ds) = true := by
  show (PyData.canLay0 d && PyData.canLayAll0 ds) = true
  rw [h, r]
  rfl
theorem can_nil : PyData.canLayAll0 [] = true := rfl
theorem eqv_self {d : PyData} (h : SeqAt.shaped d = true) : PyData.eqv d d = true := SeqAt.eqv_refl _ (SeqAt.canLay_of_shaped h)
theorem canL_strs : ∀ {ys : List Str}, (∀ y ∈ ys, okS y.cps.toList = true) → PyData.canLayAll0 (ys.map .str) = true
  | [], _ => rfl
  | y :: r, h => by
    have e : y = S y.cps.toList := by
      refine TL.ext_tl ?_
      rfl
    rw [List.map_cons]
    refine can_cons ?_ (canL_strs fun z hz => h z (List.mem_cons_of_mem _ hz))
    rw [e]
    exact canS (h y List.mem_cons_self)
theorem depth_strs : ∀ ys : List Str, PyData.depthAll (ys.map .str) = 0
  | [] => rfl
  | y :: r => by
    show max 0 (PyData.depthAll (r.map .str)) = 0
    rw [depth_strs r]
    rfl
theorem shaped_strs {ys : List Str} (h : ∀ y ∈ ys, okS y.cps.toList = true) : SeqAt.shaped (.list (ys.map .str)) = true := by
  show (PyData.canLayAll0 (ys.map .str) && decide (PyData.depthAll (ys.map .str) + 1 ≤ 64)) = true
  rw [canL_strs h, depth_strs]
  rfl
theorem dta_strs {H : Hp} : ∀ ys : List Str, DtA H (ys.map V.str) (ys.map .str)
  | [] => .nil
  | y :: r => .cons (.str y) (dta_strs r)
/-- the part of a try that returns (word, o.m(..)) -/
theorem done_ret {C p dx : Addr} {m : Str} {sp : Sp} {W : WX} {fs : List (Str × V)} {σ : L2.St} {H : Hp} {D : Ends} {tA : TA} {vs : List V} {word : Str} (hσ : σ[0]? = some (some (.ref p))) (ho : H p = some (.ins C dx fs)) (hm : fs.lookup m = none) (hA : EvA tA σ H vs)
    (hs : ∀ H1, Ex H H1 → sp (.ref p :: vs) H1 (fun v H2 => [V.str word, v].length ≤ sizeLine ∧ ∀ q, H2 q = none → D.rt (.ref q) (L2.upd H2 q (.tup [.str word, v]))) (WE W σ)) :
    tRet (tTup (tCons (tC (.str word)) (tCons (tMethX C m sp (WE W) (tVar 0) tA) tNil))) D σ H :=
  ⟨_, hσ, p, dx, fs, rfl, ho, hm, hA H (Ex.refl _) _ fun H1 e1 => hs H1 e1⟩
end Kn
/-! ### a dict of the module with text keys: what it holds at each key -/
namespace Kn
open PySem PySem.Spec PyProof.Rows L2 Evl SX
/-- the entries as they stand: keys and values -/
def wdLook (es : List (Str × V)) (z : Str) : Option V := (es.find? fun e => decide (e.1 = z)).map (·.2)
structure WD (K : PySem.W.Frag) (w : World) (mg : Str → Option Value) (x : Str) (D : Addr) (f : List (Str × V)) : Prop where
  mg : mg x = some (.ref D)
  ex : ∃ es n, KDict K w D es n
  at_ : ∀ z, ∃ r, PySem.W.nsIn K D z = some r ∧ ((wdLook f z = none ∧ r = none) ∨ ∃ v u, wdLook f z = some v ∧ r = some u ∧ RelV v u)
inductive EntsAre : List DictEntry → List (Str × V) → Prop
  | nil : EntsAre [] []
  | cons {e : DictEntry} {es : List DictEntry} {x : Str} {v : V} {f : List (Str × V)} (hk : ∃ t, e.key = .str x t) (hv : RelV v e.val) (r : EntsAre es f) : EntsAre (e :: es) ((x, v) :: f)
theorem EntsAre.find : ∀ {es : List DictEntry} {f : List (Str × V)}, EntsAre es f → ∀ z : Str, ((es.find? (·.key.isStr z)) = none ∧ wdLook f z = none ∧ es.any (·.refKey) = false) ∨ ∃ e v, es.find? (·.key.isStr z) = some e ∧ wdLook f z = some v ∧ RelV v e.val
  | _, _, .nil, z => .inl ⟨rfl, rfl, rfl⟩
  | _, _, .cons (e := e) (es := es) (x := x) (v := v) (f := f) ⟨t, hk⟩ hv r, z => by
    unfold wdLook
    rw [List.find?_cons, List.find?_cons]
    have h1 : e.key.isStr z = decide (x = z) := by
      rw [hk]
      show (x == z) = decide (x = z)
      by_cases h : x = z
      · rw [h, decide_eq_true rfl]
        exact beq_self_eq_true z
      · rw [decide_eq_false h]
        exact beq_eq_false_iff_ne.mpr h
    rw [h1]
    by_cases h : x = z
    · rw [decide_eq_true h]
      exact .inr ⟨e, v, rfl, rfl, hv⟩
    · rw [decide_eq_false h]
      rcases EntsAre.find r z with ⟨a, b, c⟩ | ⟨e2, v2, a, b, c⟩
      · refine .inl ⟨a, b, ?_⟩
        rw [List.any_cons, c, Bool.or_false]
        unfold DictEntry.refKey
        rw [hk]
      · exact .inr ⟨e2, v2, a, b, c⟩
theorem wd_of {K : PySem.W.Frag} {w : World} {mg : Str → Option Value} {x : Str} {D : Addr} {es : Array DictEntry} {n : Nat} {f : List (Str × V)} (g : mg x = some (.ref D)) (h : K.lookup D = some ⟨.type "dict", none, .dict es n, #[]⟩) (low : (D == sysModules) = false) (lit : PySem.W.KeysLit w.params es.toList) (ea : EntsAre es.toList f) : WD K w mg x D f :=
  ⟨g, ⟨es, n, h, lit, low⟩, fun z => by
    unfold PySem.W.nsIn
    rw [h]
    dsimp only
    rcases ea.find z with ⟨a, b, c⟩ | ⟨e, v, a, b, c⟩
    · rw [a, c]
      exact ⟨none, rfl, .inl ⟨b, rfl⟩⟩
    · rw [a]
      exact ⟨some e.val, rfl, .inr ⟨v, _, b, rfl, c⟩⟩⟩
def rWIn (D : Addr) (f : List (Str × V)) : R2 := fun x y H Q => ∃ z : Str, x = .str z ∧ y = .ref D ∧ Q (.bl (wdLook f z).isSome) H
def rWNin (D : Addr) (f : List (Str × V)) : R2 := fun x y H Q => ∃ z : Str, x = .str z ∧ y = .ref D ∧ Q (.bl (!(wdLook f z).isSome)) H
def rIxW (D : Addr) (f : List (Str × V)) : R2 := fun x y H Q => ∃ (z : Str) (v : V), x = .ref D ∧ y = .str z ∧ wdLook f z = some v ∧ Q v H
def tWGet2 (D : Addr) (f : List (Str × V)) (td ty tx : TE) : TE := fun σ H Q => td σ H fun x H1 => x = .ref D ∧ ty σ H1 fun y H2 => tx σ H2 fun d H3 => ∃ z : Str, y = .str z ∧ Q ((wdLook f z).getD d) H3
section
variable {X : Cx} {x : Str} {D : Addr} {f : List (Str × V)} {pos apos cpos : Pos} {o e e2 : Expr} {td ty tx : TE}
theorem pe_wd (W : WD X.K X.w X.mg x D f) (hg : Gl X x) (hd : (x == ("__debug__" : Str)) = false := by decide) : PE X (.Name x pos) (tC (.ref D)) := pe_glob hg W.mg rfl hd
theorem WD.same {K : PySem.W.Frag} {w : World} {mg : Str → Option Value} (W : WD K w mg x D f) (z : Str) : ∃ r, PySem.W.nsIn K D z = some r ∧ r.isSome = (wdLook f z).isSome := by
  obtain ⟨r, h, h2⟩ := W.at_ z
  refine ⟨r, h, ?_⟩
  rcases h2 with ⟨a, b⟩ | ⟨v, u, a, b, _⟩ <;> rw [a, b] <;> rfl
theorem op_in_wd (W : WD X.K X.w X.mg x D f) : OpR X (compareOp .In) (rWIn D f) := by
  intro pins s σ H x y v u Q I rx ry h
  obtain ⟨z, rfl, rfl, q⟩ := h
  obtain ⟨es, n, hD⟩ := W.ex
  obtain ⟨r, h1, h2⟩ := W.same z
  exact op_in_kd hD pins s σ H _ _ v u Q I rx ry ⟨z, r, rfl, rfl, h1, by rw [h2]; exact q⟩
theorem op_notIn_wd (W : WD X.K X.w X.mg x D f) : OpR X (compareOp .NotIn) (rWNin D f) := by
  intro pins s σ H x y v u Q I rx ry h
  obtain ⟨z, rfl, rfl, q⟩ := h
  obtain ⟨es, n, hD⟩ := W.ex
  obtain ⟨r, h1, h2⟩ := W.same z
  exact op_notIn_kd hD pins s σ H _ _ v u Q I rx ry ⟨z, r, rfl, rfl, h1, by rw [h2]; exact q⟩
theorem ix_wd (W : WD X.K X.w X.mg x D f) : IxR X (rIxW D f) := by
  intro value slice pins s σ H x y v u Q I rx ry h hs
  obtain ⟨z, v0, rfl, rfl, h0, q⟩ := h
  obtain ⟨es, n, hD⟩ := W.ex
  obtain ⟨r, h1, h2⟩ := W.at_ z
  rcases h2 with ⟨a, b⟩ | ⟨v1, u1, a, b, c⟩
  · rw [h0] at a
    cases a
  · rw [h0] at a
    cases Option.some.inj a
    subst b
    obtain rfl : v = Value.ref D := rx
    obtain ⟨t, rfl⟩ := (show ∃ t, u = Value.str z t from ry)
    have hm' := PySem.W.mapOf_K (prog := X.prog) (w := X.w) I.kIn hD.at_ hD.lit
    exact tail_any hm'.typeIs slot_dict_getitem.lookup (wpAny_getItem_of (PySem.strKind_is X.prog X.w z t) hm' (PySem.W.find_K hD.at_ h1) ⟨v0, H, I.tok _, c, q⟩) hs
theorem pe_wget2 (W : WD X.K X.w X.mg x D f) (ho : PE X o td) (he : PE X e ty) (hf : PE X e2 tx) (m : M2 X o "get" apos e e2 cpos) : PE X (.Call (.Attribute o "get" apos) [e, e2] [] cpos) (tWGet2 D f td ty tx) := by
  refine ⟨fun pins s σ H Q I h => ?_⟩
  obtain ⟨es, n, hD⟩ := W.ex
  refine wpAny_Call_method m.base m.few m.line PySem.F.plainAttrs_dict PySem.F.slot_dict_get PySem.F.type_dict_get (thn (ho.run pins s σ H _ I h) fun u s1 ⟨y1, H1, I1, rx, ex, q1⟩ => ?_)
  subst ex
  obtain rfl : u = Value.ref D := rx
  have hk := fun (h : Heap) (k : X.K.In h) => k _ _ hD.at_
  refine ⟨kd_type hD I1, fun b q => ?_, ?_⟩
  · cases q
    exact ⟨_, hk _ I1.kIn, rfl⟩
  rw [m.trees]
  refine Calls.callWith_builtin rfl (Calls.evalArgs_plain (Calls.spliced_cons (thn (he.run pins s1 σ H1 _ I1 q1) fun iv s2 ⟨y, H2, I2, ry, q2⟩ =>
    Calls.spliced_cons (thn (hf.run pins s2 σ H2 _ I2 q2) fun fv s3 ⟨d, H3, I3, rz, z, ey, q3⟩ => Calls.spliced_nil ?_))))
  subst ey
  obtain ⟨t, rfl⟩ := (show ∃ t, iv = Value.str z t from ry)
  obtain ⟨r, h1, h2⟩ := W.at_ z
  have hm' := PySem.W.mapOf_K (prog := X.prog) (w := X.w) I3.kIn hD.at_ hD.lit
  refine call_meetsIn PySem.F.slot_dict_get hm'.typeIs PySem.F.entry_dict_get (PySem.F.args_dict_get_3 _ _ _) (meets_dict_get_default (strKind X.prog X.w) D (PySem.strKind_is X.prog X.w z t) hD.low fv) ⟨_, hm', ?_⟩
  have hf1 := PySem.W.find_K hD.at_ h1
  rw [hf1]
  refine ⟨(wdLook f z).getD d, H3, I3.tok _, ?_, q3⟩
  rcases h2 with ⟨a, b⟩ | ⟨v1, u1, a, b, c⟩
  · rw [a, b]
    exact rz
  · rw [a, b]
    exact c
end
section
variable {σ : L2.St} {H : Hp} {ta tb tc : TE} {D : Addr} {f : List (Str × V)} {l : List Nat} {v : V}
theorem rv_win : RV (rWIn D f) (.str (S l)) (.ref D) H (.bl (wdLook f (S l)).isSome) := fun H1 _ _ q => ⟨S l, rfl, rfl, q H1 (Ex.refl H1)⟩
theorem rv_wnin : RV (rWNin D f) (.str (S l)) (.ref D) H (.bl (!(wdLook f (S l)).isSome)) := fun H1 _ _ q => ⟨S l, rfl, rfl, q H1 (Ex.refl H1)⟩
theorem rv_wix (h : wdLook f (S l) = some v) : RV (rIxW D f) (.ref D) (.str (S l)) H v := fun H1 _ _ q => ⟨S l, v, rfl, rfl, h, q H1 (Ex.refl H1)⟩
theorem ev_wget2 (ha : Ev ta σ H (.ref D)) (hb : Ev tb σ H (.str (S l))) (hc : Ev tc σ H v) : Ev (tWGet2 D f ta tb tc) σ H ((wdLook f (S l)).getD v) := fun H1 e Q q =>
  ha H1 e _ fun H2 e2 => ⟨rfl, hb H2 (e.trans e2) _ fun H3 e3 => hc H3 ((e.trans e2).trans e3) _ fun H4 e4 => ⟨S l, rfl, q H4 ((e2.trans e3).trans e4)⟩⟩
end
end Kn
namespace Kn
open PySem PySem.Spec PyProof.Rows L2 Evl SX
theorem num_len {n : Nat} (h : n < 10 ^ 9) : (TL.numL n).length ≤ 9 := by
  unfold TL.numL
  rw [List.length_map]
  exact (Nat.length_toDigits_le_iff (by decide) (by decide)).mpr h
theorem cutS_nat (l : List Nat) (a b : Nat) : cutS (S l) (some (a : Int)) (some (b : Int)) = S ((l.drop a).take (b - a)) := by
  unfold cutS
  rw [HT.sIx_nat, HT.sIx_nat]
  exact congrArg S (cut_nat l a b)
/-! ### lstrip, unpacking, raising passed on -/
def rLstripC : V → List V → Hp → VK → Prop := fun x xs H Q => ∃ a b, x = .str a ∧ xs = [.str b] ∧ a.length ≤ sizeLine ∧ Q (.str (Txt.lstripChars a b)) H
theorem mt_lstripC {X : Cx} : MtR X "str.lstrip" rLstripC := mt_lstripChars
theorem drop_tw (p : Nat → Bool) : ∀ l : List Nat, l.drop (l.takeWhile p).length = l.dropWhile p
  | [] => rfl
  | c :: r => by
    rw [List.takeWhile_cons, List.dropWhile_cons]
    cases h : p c with
    | true =>
      show (c :: r).drop ((r.takeWhile p).length + 1) = r.dropWhile p
      rw [List.drop_succ_cons]
      exact drop_tw p r
    | false => rfl
theorem lstrip_S (l : List Nat) (c : Nat) : Txt.lstripChars (S l) (S [c]) = S (l.dropWhile fun d => decide (d = c)) := by
  unfold Txt.lstripChars
  rw [PySem.W.stripBy_eq]
  refine TL.ext_tl ?_
  have hg : ∀ d, (S [c]).cps.contains d = decide (d = c) := fun d => by
    show (#[c] : Array Nat).contains d = _
    by_cases h : d = c
    · subst h; simp
    · simp [h]
  have e : (fun d => (S [c]).cps.contains d) = fun d => decide (d = c) := funext hg
  show (PySem.W.stripped (fun d => (S [c]).cps.contains d) true false (S l)).cps.toList = _
  rw [e]
  show (PySem.Builtin.Str.strSub (S l) (l.takeWhile fun d => decide (d = c)).length (S l).length).cps.toList = l.dropWhile fun d => decide (d = c)
  rw [S_len]
  have h1 := TL.tl_strSub (x := S l) (i := (l.takeWhile fun d => decide (d = c)).length) (j := l.length)
  refine h1.trans ?_
  show (l.drop _).take (l.length - _) = _
  rw [List.take_of_length_le (by rw [List.length_drop]; exact Nat.le_refl _)]
  exact drop_tw _ l
section
variable {K : PySem.W.Frag} {σ : L2.St} {H H' : Hp} {ta tb te : TE} {v1 v2 v3 : V} {a : Addr} {i j k : Nat} {Q : L2.St → Hp → Prop}
theorem ev_lstrip {l : List Nat} {c : Nat} (ha : Ev ta σ H (.str (S l))) (hb : Ev tb σ H (.str (S [c]))) (hl : l.length ≤ 100000) : Ev (tM1 rLstripC ta tb) σ H (.str (S (l.dropWhile fun d => decide (d = c)))) := fun H1 e Q q =>
  ha H1 e _ fun H2 e2 => ⟨⟨_, rfl⟩, hb H2 (e.trans e2) _ fun H3 e3 => ⟨S l, S [c], rfl, rfl, by rw [S_len]; exact sz_of hl, by rw [lstrip_S]; exact q H3 (e2.trans e3)⟩⟩
theorem unp2 (h : H a = some (.tup [v1, v2])) (q : Q ((σ.set i (some v1)).set j (some v2)) H) : gTup K 2 (gCons (gName i) (gCons (gName j) gNil)) (.ref a) σ H Q :=
  ⟨a, _, rfl, st_of h, rfl, v1, _, rfl, v2, _, rfl, rfl, q⟩
theorem unp3 (h : H a = some (.tup [v1, v2, v3])) (q : Q (((σ.set i (some v1)).set j (some v2)).set k (some v3)) H) : gTup K 3 (gCons (gName i) (gCons (gName j) (gCons (gName k) gNil))) (.ref a) σ H Q :=
  ⟨a, _, rfl, st_of h, rfl, v1, _, rfl, v2, _, rfl, v3, _, rfl, rfl, q⟩
/-- what is raised: an error of the class at C with these four fields -/
def Rz4 (H : Hp) (E : XK) (C : Addr) (p : List Nat) (n c : Nat) (r : List Nat) : Prop := ∀ d H', Ex H H' → H' d = some (.xd (fs4 p n c r)) → E (.ref C) (some d) H'
theorem Rz4.mono {E : XK} {C : Addr} {p r : List Nat} {n c : Nat} (h : Rz4 H E C p n c r) (e : Ex H H') : Rz4 H' E C p n c r := fun d H2 e2 hd => h d H2 (e.trans e2) hd
end
end Kn
namespace Kn
open PySem PySem.Spec PyProof.Rows L2 Evl SX
section
variable {σ : L2.St} {H H' : Hp} {W : WX} {sp : Sp} {tA : TA} {g : TG} {D : Ends} {tz : TS} {vs : List V}
/-- a call that may raise, its answer stored, returned, thrown away -/
theorem s_asgS (hA : EvA tA σ H vs) (k : ∀ H1, Ex H H1 → sp vs H1 (fun v H2 => g v σ H2 D.nx) (WE W σ)) : tAsg (tCallS sp (WE W) tA) g D σ H := hA H (Ex.refl _) _ fun H1 e1 => k H1 e1
theorem q_asgS (hA : EvA tA σ H vs) (k : ∀ H1, Ex H H1 → sp vs H1 (fun v H2 => g v σ H2 (tz D)) (WE W σ)) : tSeq (tAsg (tCallS sp (WE W) tA) g) tz D σ H := s_asgS (D := { D with nx := tz D }) hA k
theorem s_retS (hA : EvA tA σ H vs) (k : ∀ H1, Ex H H1 → sp vs H1 (fun v H2 => D.rt v H2) (WE W σ)) : tRet (tCallS sp (WE W) tA) D σ H := hA H (Ex.refl _) _ fun H1 e1 => k H1 e1
end
end Kn
namespace Kn
open PySem PySem.Spec PyProof.Rows L2 Evl SX
section
variable {K : PySem.W.Frag} {σ : L2.St} {H H' : Hp} {ta te : TE} {D : Ends} {tz : TS} {l : Addr} {xs : List V} {d : PyData}
theorem s_appD (hl : H l = some (.lst xs)) (ha : Ev ta σ H (.ref l)) (h : EvD te σ H d) (hz : xs.length < 100000) (k : ∀ v H1, Ex H H1 → Dt H1 v d → D.nx σ (L2.upd H1 l (.lst (xs ++ [v])))) :
    tDrop (tBM K "list" rAppend ta (tCons te tNil)) D σ H := ha H (Ex.refl H) _ fun H1 e1 =>
  ⟨Or.inl ⟨rfl, xs, sq_of (e1 l _ hl)⟩, h H1 e1 _ fun v H2 e2 hv => ⟨l, xs, v, rfl, rfl, e2 l _ (e1 l _ hl), sz_lt hz, k v H2 (e1.trans e2) hv⟩⟩
theorem q_appD (hl : H l = some (.lst xs)) (ha : Ev ta σ H (.ref l)) (h : EvD te σ H d) (hz : xs.length < 100000) (k : ∀ v H1, Ex H H1 → Dt H1 v d → tz D σ (L2.upd H1 l (.lst (xs ++ [v])))) :
    tSeq (tDrop (tBM K "list" rAppend ta (tCons te tNil))) tz D σ H := s_appD (D := { D with nx := tz D }) hl ha h hz k
theorem dta_app {v : V} {ds : List PyData} (hl : H l = some (.lst xs)) (hD : DtA H xs ds) (hv : Dt H v d) (h1 : noLA ds = true) (h2 : noL d = true) : DtA (L2.upd H l (.lst (xs ++ [v]))) (xs ++ [v]) (ds ++ [d]) :=
  DtA.snoc (hv.upd hl (fun _ z => nomatch z) h2) (hD.upd hl (fun _ z => nomatch z) h1)
theorem noLA_map {α : Type} {f : α → PyData} (h : ∀ x, noL (f x) = true) : ∀ l : List α, noLA (l.map f) = true
  | [] => by unfold noLA; rfl
  | x :: r => by
    rw [List.map_cons]
    unfold noLA
    rw [h x, noLA_map h r]
    rfl
end
end Kn
namespace Kn
open PySem PySem.Spec PyProof.Rows L2 Evl SX
/-! ### a token is out -/
section
variable {X : Cx} {a b c e o : Expr} {rest : List Expr} {ta tb te to : TE} {tc tA tB' : TT} {t u : TS} {sa sb : List Stmt} {pos apos : Pos}
theorem peb_int {i : Int} {j : Nat} : PEb X (.Constant (.int i) j pos) (tC (.int i)) := fun _ s _ H _ I h => wpAny_Constant_int ⟨by show 1 ≤ s.toks + 1; omega, .int i, H, I.tok _, ⟨_, rfl⟩, h⟩
theorem peb_opR {op : Operator} {r : R2} (ho : OpR X (binaryOp op) r) (ha : PE X a ta) (hb : PEb X b tb) : PEb X (.BinOp a op b pos) (tOp r ta tb) := by
  intro pins s σ H Q I h
  refine wpAny_BinOp (thn (ha.run pins s σ H _ I h) fun v s1 ⟨x, H1, I1, r1, q1⟩ => ?_)
  exact thn (hb pins s1 σ H1 _ I1 q1) fun u s2 ⟨h2, y, H2, I2, r2, q2⟩ => keep_tok h2 (ho pins s2 σ H2 x y v u Q I2 r1 r2 q2)
theorem peb_ix {r : R2} (hr : IxR X r) (ha : PE X a ta) (hb : PEb X b tb) (hs : PlainIx b) : PEb X (.Subscript a b pos) (tOp r ta tb) := by
  intro pins s σ H Q I h
  refine Subscript_ (thn (ha.run pins s σ H _ I h) fun v s1 ⟨x, H1, I1, r1, q1⟩ => ?_)
  exact thn (hb pins s1 σ H1 _ I1 q1) fun u s2 ⟨h2, y, H2, I2, r2, q2⟩ => keep_tok h2 (hr a b pins s2 σ H2 x y v u Q I2 r1 r2 q2 (hs _ _))
theorem pe_of_b {te : TE} (h : ∀ (pins : List (Addr × Obj)) (s : Shared) (σ : L2.St) (H : Hp) (Q : VK), Inv X pins σ H s → te σ H Q → wpAny (model X.prog X.w) X.A (eval e X.env) (EP X pins σ Q) X.xe s) : PE X e te := ⟨h⟩
/-- b.replace(..), where b's own text gives a token -/
theorem pe_replB {y z : Str} {j k : Nat} {c0 c1 : Pos} (ho : PEb X o to) (hyz : (y == z) = false := by decide)
    (hst : starEach [.Constant (.str y) j c0, .Constant (.str z) k c1] X.env = [(false, eval (.Constant (.str y) j c0) X.env), (false, eval (.Constant (.str z) k c1) X.env)] := by rfl)
    (hbase : attributeBase o "replace" X.env (eval o X.env) = eval o X.env := by rfl) (hline : (apos.endLine == pos.line) = true := by rfl) :
    PE X (.Call (.Attribute o "replace" apos) [.Constant (.str y) j c0, .Constant (.str z) k c1] [] pos) (CwR.tReplC to y z) := by
  refine ⟨fun pins s σ H Q I h => ?_⟩
  refine PySem.Call_method2 hbase hst hline (thn (ho pins s σ H _ I h) fun v s1 ⟨hk, v', H1, I1, r1, x, e1, hb, q⟩ => ?_)
  subst e1
  obtain ⟨tx, e2⟩ := r1
  subst e2
  refine ⟨"str", _, PySem.F.plainAttrs_str, PySem.F.slot_str_replace, PySem.F.type_str_replace, typeIs_str _ _ _, (fun _ e => nomatch e), Calls.callWith_builtin rfl (Calls.evalArgs_plain (Calls.spliced_cons ?_))⟩
  refine Calls.Constant_str (Calls.spliced_cons (Calls.Constant_str (Calls.spliced_nil ?_)))
  exact PySem.SC.replace (by show s1.toks ≠ 0; omega) (by show s1.toks + 1 ≠ 0; omega) (by show s1.toks ≠ s1.toks + 1; omega) hyz hb fun t' k => ⟨.str (Txt.replace x y z), H1, I1.tok k, ⟨t', rfl⟩, q⟩
def PTT (X : Cx) (c : Expr) (tc : TT) : Prop := ∀ (pins : List (Addr × Obj)) (s : Shared) (σ : L2.St) (H : Hp) (Q : Bool → Hp → Prop), 1 ≤ s.toks → Inv X pins σ H s → tc σ H Q → wpAny (model X.prog X.w) X.A (isTrue c X.env (eval c X.env)) (TP X pins σ Q) X.xe s
def PWT (X : Cx) (c : Expr) (tc : TT) : Prop := ∀ (whole : Sem Value) (pins : List (Addr × Obj)) (s : Shared) (σ : L2.St) (H : Hp) (Q : Bool → Hp → Prop), 1 ≤ s.toks → Inv X pins σ H s → tc σ H Q → wpAny (model X.prog X.w) X.A (isTrue c X.env whole) (TP X pins σ Q) X.xe s
theorem PWT.pt (h : PWT X c tc) : PTT X c tc := h _
theorem pet_ix {r : R2} (hr : IxR X r) (ha : L2.PET X a ta) (hb : PE X b tb) (hs : PlainIx b) : L2.PET X (.Subscript a b pos) (tOp r ta tb) := by
  intro pins s σ H Q h0 I h
  refine Subscript_ (thn (ha pins s σ H _ h0 I h) fun v s1 ⟨x, H1, I1, r1, q1⟩ => ?_)
  exact thn (hb.run pins s1 σ H1 _ I1 q1) fun u s2 ⟨y, H2, I2, r2, q2⟩ => hr a b pins s2 σ H2 x y v u Q I2 r1 r2 q2 (hs _ _)
theorem ptt_cmpR {op : CmpOp} {r : R2} (ho : OpR X (compareOp op) r) (ha : L2.PET X a ta) (hb : PE X b tb) (hm : behindInMarks op b = false) : PTT X (.Compare a [op] [b] pos) (tTest (tOp r ta tb)) := by
  intro pins s σ H Q h0 I h
  refine wpAny_isTrue_Compare1 (thn (ha pins s σ H _ h0 I h) fun v s1 ⟨x, H1, I1, r1, q1⟩ => thn (hb.run pins s1 σ H1 _ I1 q1) fun u s2 ⟨y, H2, I2, r2, q2⟩ =>
    thn (ho pins s2 σ H2 x y v u _ I2 r1 r2 q2) fun c s3 ⟨z, H3, I3, r3, k, e, q3⟩ => ?_) hm
  subst e
  cases r3
  exact wpAny_truthy_bool ⟨H3, I3, q3⟩
theorem ptw_or1 (ha : PTT X a tA) : PWT X (.BoolOp .Or [a] pos) tA := by
  intro wh pins s σ H Q h0 I h
  refine isTrue_or (thn (ha pins s σ H Q h0 I h) fun c s1 e => ?_)
  cases c with
  | false => exact isTrue_or_nil e
  | true => exact e
theorem ptw_or (ha : PTT X a tA) (hb : PWT X (.BoolOp .Or (b :: rest) pos) tB') : PWT X (.BoolOp .Or (a :: b :: rest) pos) (tOr tA tB') := by
  intro wh pins s σ H Q h0 I h
  refine isTrue_or (thn (keep_tok h0 (ha pins s σ H _ h0 I h)) fun c s1 ⟨h1, H1, I1, q1⟩ => ?_)
  cases c with
  | true => exact ⟨H1, I1, q1⟩
  | false => exact hb wh pins s1 σ H1 Q h1 I1 q1
theorem pst_ifT (hc : PTT X c tc) (ha : PSs X sa t) (hb : PSs X sb u) : L2.PST X (.If c sa sb pos) (tIfS tc t u) := by
  intro pins s σ H D h0 I h
  refine wpAny_If (thn (hc pins s σ H _ h0 I h) fun d s1 ⟨H1, I1, q1⟩ => ?_)
  cases d with
  | true => exact ha.run pins s1 σ H1 D I1 q1
  | false => exact hb.run pins s1 σ H1 D I1 q1
theorem psst_nox (h : L2.PSsT X.nox sa t) : L2.PSsT X sa t := fun pins s σ H D h0 I hw =>
  wpAny_mono (h pins s σ H D h0 (I.wish _) hw) (fun _ _ q => q.unwish) fun _ _ z => False.elim z
end
section
variable {P : Program} {w : World} {K : PySem.W.Frag} {mg : Str → Option Value} {base : Heap}
theorem okT {x qual : Str} {st : Stmt} {f : Addr} {fd : FuncData} {N ps : List Str} {k : Nat} {sp : Sp} (F : Fun K x qual st f fd) (S : FnScope N ps (defScope st)) (hnc : ∀ y ∈ (defScope st).names, y.2 ≠ .cell) (hps : 1 ≤ ps.length) (len : ∀ vs H Q E, sp vs H Q E → vs.length = ps.length)
    (hbody : ∀ (cdv : Value) (A : Around) (outer : List Env) (s : Shared) (H : Hp) (vs : List V) (Q : VK) (E : XK), Room k (A.deeper (envOfC qual (defScope st) s.heap.objs.size f cdv)) → sp vs H Q E →
      ∃ t, L2.PSsT (cxOf CX0 P w K mg base N qual (defScope st) f cdv A outer s H E).nox (defBody st) t ∧ t { nx := fun _ H' => Q .non H', rt := Q } (start N vs) H) : FnOk P w K mg base CX0 (k + 1) f fd ps sp := by
  obtain ⟨oc, od, kV, doc, pm, an, cdv, ct, osl, rfl, lk, hcd⟩ := F.ex
  refine fn_ofT lk hcd S hnc hps len fun A outer s H vs Q E hr hsp => ?_
  obtain ⟨t, h, q⟩ := hbody cdv A outer s H vs Q E hr hsp
  exact ⟨t, psst_nox h, q⟩
end
section
/-- a sign of a text put for others -/
def sub1 (c : Nat) (z l : List Nat) : List Nat := l.flatMap fun e => if e = c then z else [e]
theorem repl_any {c : Nat} {z : List Nat} : ∀ l : List Nat, StrLaws.replL [c] z l = sub1 c z l
  | [] => StrLaws.replL_nil
  | e :: r => by
    by_cases h : e = c
    · subst h
      rw [StrLaws.replL_hit (List.cons_ne_nil _ _) rfl, show (e :: r).drop [e].length = r from rfl, repl_any r]
      unfold sub1
      rw [List.flatMap_cons, if_pos rfl]
    · rw [StrLaws.replL_miss (y := [c]) (show ¬ (e :: r).take [c].length = [c] from fun z => h (List.cons.inj (show e :: r.take 0 = [c] from z)).1), repl_any r]
      unfold sub1
      rw [List.flatMap_cons, if_neg h]
      rfl
theorem replace_A {l z : List Nat} {c : Nat} : Txt.replace (S l) (S [c]) (S z) = S (sub1 c z l) := by
  refine TL.ext_tl ?_
  show (Txt.replace (S l) (S [c]) (S z)).cps.toList = _
  exact (StrLaws.replace_list (show 1 ≤ (S [c]).length from Nat.le_refl 1)).trans (repl_any l)
theorem ev_replA {σ : L2.St} {H : Hp} {ta : TE} {l z : List Nat} {s1 s2 : Str} {c : Nat} (ha : Ev ta σ H (.str (S l))) (h1 : s1 = S [c]) (h2 : s2 = S z) (hl : l.length ≤ 100000) (hz : z.length ≤ 8) : Ev (CwR.tReplC ta s1 s2) σ H (.str (S (sub1 c z l))) := fun H1 e Q q => by
  subst h1 h2
  refine ha H1 e _ fun H2 e2 => ⟨S l, rfl, ?_, ?_⟩
  · rw [S_len, S_len]
    have : (l.length + 1) * z.length ≤ 100001 * 8 := Nat.mul_le_mul (by omega) hz
    omega
  · rw [replace_A]
    exact q H2 e2
end
end Kn
namespace Kn
open PySem PySem.Spec PyProof.Rows L2 Evl SX
section
variable {X : Cx} {e : Expr} {te : TE} {pos : Pos}
/-- name = value, where the value wants a token -/
theorem pst_set {i : Nat} {x : Str} {pos' : Pos} (hN : X.N.Nodup) (hi : X.N[i]? = some x) (hx : Loc X.env.scope x) (he : L2.PET X e te) (hs : swapsWith e (some (.Name x pos')) pos.line X.env = pure false := by rfl) (hf : X.fn x = true ∨ X.env.scope.names.lookup x = some .local := by first | exact .inl rfl | exact .inr rfl | assumption) :
    L2.PST X (.Assign [.Name x pos'] e pos) (tAsg te (gName i)) := by
  intro pins s σ H D h0 I h
  refine wpAny_Assign_Name (thn (he pins s σ H _ h0 I h) fun v s1 ⟨y, H1, I1, r1, q1⟩ => ?_) hs
  exact store_ok I1 hN hi hx r1 (fun s2 I2 => ⟨_, H1, I2, q1⟩) hf
end
section
variable {σ : L2.St} {H : Hp} {W : WX} {sp : Sp} {tA : TA} {vs : List V} {d : PyData}
theorem q_dropS {D : Ends} {tz : TS} (hA : EvA tA σ H vs) (k : ∀ H1, Ex H H1 → sp vs H1 (fun _ H2 => tz D σ H2) (WE W σ)) : tSeq (tDrop (tCallS sp (WE W) tA)) tz D σ H := hA H (Ex.refl H) _ fun H1 e1 => k H1 e1
theorem s_dropS {D : Ends} (hA : EvA tA σ H vs) (k : ∀ H1, Ex H H1 → sp vs H1 (fun _ H2 => D.nx σ H2) (WE W σ)) : tDrop (tCallS sp (WE W) tA) D σ H := hA H (Ex.refl H) _ fun H1 e1 => k H1 e1
/-- a call that may raise and does not -/
theorem evd_callS (hA : EvA tA σ H vs) (k : ∀ H1, Ex H H1 → ∀ Q : VK, RtD H1 d Q → sp vs H1 Q (WE W σ)) : EvD (tCallS sp (WE W) tA) σ H d := fun H1 e Q q =>
  hA H1 e _ fun H2 e2 => k H2 (e.trans e2) _ fun v H3 e3 hv => q v H3 (e2.trans e3) hv
end
end Kn
namespace Kn
open PySem PySem.Spec PyProof.Rows L2 Evl SX
section
variable {K : PySem.W.Frag} {σ : L2.St} {H H' H1 : Hp} {te t1 t2 : TE}
/-- column, reason -/
def fs2 (c : Nat) (r : List Nat) : List (Str × V) := [("reason", .str (S r)), ("column", .int (c : Int))]
structure Nf2 (K : PySem.W.Frag) (C : Addr) : Prop where
  c : PySem.W.findIn K (.ref C) "column" = some none
  r : PySem.W.findIn K (.ref C) "reason" = some none
def Sm2 (c : Nat) (r : List Nat) : Prop := r.length ≤ 9000 ∧ c < 10 ^ 9
def sp_I2 (K : PySem.W.Frag) : Sp := fun vs H Q _ => ∃ (a C : Addr) (c : Nat) (r : List Nat), vs = [.ref a, .int (c : Int), .str (S r)] ∧ Sm2 c r ∧ H a = some (exo a C none) ∧ OexC K C ∧ Nf2 K C ∧
  ∀ dx H', H dx = none → dx ≠ a → XMade H H' a C dx (fs2 c r) → Q .non H'
theorem raise2 {W : WX} {C : Addr} {r : List Nat} {c : Nat} (oe : OexC K C) (nf : Nf2 K C) (hl : Sm2 c r) (h1 : Ev t1 σ H (.int (c : Int))) (h2 : Ev t2 σ H (.str (S r)))
    (hk : ∀ d H', Ex H H' → H' d = some (.xd (fs2 c r)) → W (.ref C) (some d) σ H') : tMkO C (sp_I2 K) [] (tCons t1 (tCons t2 tNil)) σ H (fun cls d H' => W cls d σ H') :=
  ea_cons h1 (ea_cons h2 ea_nil) H (Ex.refl _) _ fun H2 e2 => ⟨(by show 2 ≤ 1000; decide), fun a na => ⟨a, C, c, r, rfl, hl, upd_same, oe, nf, fun dx H' hdx ne m =>
    ⟨rfl, dx, _, m.1, m.2.1, upd_none hdx, xm_raise e2 na (upd_none hdx) m hk⟩⟩⟩
theorem init2_body {D : Ends} {a C : Addr} {r m : List Nat} {c : Nat} {tj : TE} {σ0 : L2.St} (hσ : σ0 = [some (.ref a), some (.int (c : Int)), some (.str (S r))]) (hj : Ev tj σ0 H (.str (S m))) (ha : H a = some (exo a C none)) (oe : OexC K C) (nf : Nf2 K C)
    (q : ∀ dx H', H dx = none → dx ≠ a → XMade H H' a C dx (fs2 c r) → D.nx σ0 H') : tSeq (tDrop (tVeI K (tCons (tVar 0) (tCons tj tNil)))) (tSeq (tOst K "column" (tVar 0) (tVar 1)) (tOst K "reason" (tVar 0) (tVar 2))) D σ0 H := by
  subst hσ
  refine q_beinit (ev_var rfl) hj oe ha fun H1 e1 => ?_
  refine ⟨_, rfl, _, rfl, a, C, rfl, oe, nf.c, .inl ⟨e1 _ _ ha, fun dx hd ne => ?_⟩⟩
  have m1 := xmade_new (C := C) (f := "column") (v := .int (c : Int)) e1 ne
  refine ⟨_, rfl, _, rfl, a, C, rfl, oe, nf.r, .inr ⟨dx, _, m1.1, m1.2.1, (by show 1 ≤ 900; decide), ?_⟩⟩
  exact q dx _ (fresh_back e1 hd) ne (m1.more (f := "reason") (v := .str (S r)) ne (Ex.refl _))
def Rz2 (H : Hp) (E : XK) (C : Addr) (c : Nat) (r : List Nat) : Prop := ∀ d H', Ex H H' → H' d = some (.xd (fs2 c r)) → E (.ref C) (some d) H'
theorem Rz2.mono {E : XK} {C : Addr} {r : List Nat} {c : Nat} (h : Rz2 H E C c r) (e : Ex H H') : Rz2 H' E C c r := fun d H2 e2 hd => h d H2 (e.trans e2) hd
theorem evd_tupOf {ta : TE} {p : Addr} {vs : List V} {ds : List PyData} (h : Ev ta σ H (.ref p)) (hp : H p = some (.lst vs)) (hd : DtA H vs ds) :
    EvD (tCB (fun xs H Q => ∃ p ys, xs = [.ref p] ∧ ((SqL K H p ys ∧ ∀ l, H l = none → Q (.ref l) (upd H l (.tup ys))) ∨ (SqT K H p ys ∧ Q (.ref p) H))) (tCons ta tNil)) σ H (.tuple ds) := fun H1 e Q q =>
  h H1 e _ fun H2 e2 => ⟨p, vs, rfl, .inl ⟨sq_of ((e.trans e2) _ _ hp), fun l hl => q _ _ (e2.trans (Ex.new hl)) (.tup upd_same ((hd.mono (e.trans e2)).mono (Ex.new hl)))⟩⟩
end
end Kn

namespace My
open PySem PySem.Spec PyProof.Rows L2 Evl SX Kn
def topS (i : Nat) : Stmt := PySem.Challenge.pw_kilnyard_k13_wrong_expressions.main.body.getD i (.Pass ⟨0, 0, 0, 0⟩)
abbrev s_scan_line : Stmt := topS 12
abbrev N_scan_line : List Str := ["path", "number", "line", "tokens", "at", "kind", "text", "behind"]
theorem sc_scan_line : FnScope N_scan_line ["path", "number", "line"] (defScope s_scan_line) := ⟨rfl, rfl, rfl, by decide +kernel, rfl, by decide +kernel, by decide +kernel⟩
abbrev s_is_identifier : Stmt := topS 13
abbrev N_is_identifier : List Str := ["value", "sign"]
theorem sc_is_identifier : FnScope N_is_identifier ["value"] (defScope s_is_identifier) := ⟨rfl, rfl, rfl, by decide +kernel, rfl, by decide +kernel, by decide +kernel⟩
abbrev s__skip_spaces : Stmt := topS 14
abbrev N__skip_spaces : List Str := ["line", "start", "at"]
theorem sc__skip_spaces : FnScope N__skip_spaces ["line", "start"] (defScope s__skip_spaces) := ⟨rfl, rfl, rfl, by decide +kernel, rfl, by decide +kernel, by decide +kernel⟩
abbrev s__token : Stmt := topS 15
abbrev N__token : List Str := ["path", "number", "line", "start", "text", "behind"]
theorem sc__token : FnScope N__token ["path", "number", "line", "start"] (defScope s__token) := ⟨rfl, rfl, rfl, by decide +kernel, rfl, by decide +kernel, by decide +kernel⟩
abbrev s__string : Stmt := topS 16
abbrev N__string : List Str := ["path", "number", "line", "start", "parts", "at", "part"]
theorem sc__string : FnScope N__string ["path", "number", "line", "start"] (defScope s__string) := ⟨rfl, rfl, rfl, by decide +kernel, rfl, by decide +kernel, by decide +kernel⟩
abbrev s__string_part : Stmt := topS 17
abbrev N__string_part : List Str := ["path", "number", "line", "at", "sign"]
theorem sc__string_part : FnScope N__string_part ["path", "number", "line", "at"] (defScope s__string_part) := ⟨rfl, rfl, rfl, by decide +kernel, rfl, by decide +kernel, by decide +kernel⟩
abbrev s_parse_expression : Stmt := topS 22
abbrev N_parse_expression : List Str := ["tokens", "start", "known"]
theorem sc_parse_expression : FnScope N_parse_expression ["tokens", "start", "known"] (defScope s_parse_expression) := ⟨rfl, rfl, rfl, by decide +kernel, rfl, by decide +kernel, by decide +kernel⟩
abbrev s__expression : Stmt := topS 23
abbrev N__expression : List Str := ["tokens", "start", "known", "depth", "term", "at", "terms"]
theorem sc__expression : FnScope N__expression ["tokens", "start", "known", "depth"] (defScope s__expression) := ⟨rfl, rfl, rfl, by decide +kernel, rfl, by decide +kernel, by decide +kernel⟩
abbrev s__term : Stmt := topS 24
abbrev N__term : List Str := ["tokens", "at", "known", "depth", "kind", "text", "column"]
theorem sc__term : FnScope N__term ["tokens", "at", "known", "depth"] (defScope s__term) := ⟨rfl, rfl, rfl, by decide +kernel, rfl, by decide +kernel, by decide +kernel⟩
abbrev s__call : Stmt := topS 25
abbrev N__call : List Str := ["tokens", "at", "known", "depth", "_", "word", "column", "arguments", "behind", "argument"]
theorem sc__call : FnScope N__call ["tokens", "at", "known", "depth"] (defScope s__call) := ⟨rfl, rfl, rfl, by decide +kernel, rfl, by decide +kernel, by decide +kernel⟩
abbrev s__check_behind : Stmt := topS 26
abbrev N__check_behind : List Str := ["tokens", "at", "wanted", "sign", "column"]
theorem sc__check_behind : FnScope N__check_behind ["tokens", "at", "wanted"] (defScope s__check_behind) := ⟨rfl, rfl, rfl, by decide +kernel, rfl, by decide +kernel, by decide +kernel⟩
abbrev s__check_there : Stmt := topS 27
abbrev N__check_there : List Str := ["tokens", "at"]
theorem sc__check_there : FnScope N__check_there ["tokens", "at"] (defScope s__check_there) := ⟨rfl, rfl, rfl, by decide +kernel, rfl, by decide +kernel, by decide +kernel⟩
abbrev s__sign : Stmt := topS 28
abbrev N__sign : List Str := ["tokens", "at"]
theorem sc__sign : FnScope N__sign ["tokens", "at"] (defScope s__sign) := ⟨rfl, rfl, rfl, by decide +kernel, rfl, by decide +kernel, by decide +kernel⟩
abbrev s__law_cell : Stmt := topS 30
abbrev N__law_cell : List Str := ["script", "k"]
theorem sc__law_cell : FnScope N__law_cell ["script", "k"] (defScope s__law_cell) := ⟨rfl, rfl, rfl, by decide +kernel, rfl, by decide +kernel, by decide +kernel⟩
abbrev s__law_parsed : Stmt := topS 31
abbrev N__law_parsed : List Str := ["tokens", "e"]
theorem sc__law_parsed : FnScope N__law_parsed ["tokens"] (defScope s__law_parsed) := ⟨rfl, rfl, rfl, by decide +kernel, rfl, by decide +kernel, by decide +kernel⟩
abbrev s__law_case : Stmt := topS 32
abbrev N__law_case : List Str := ["kind", "size", "tail", "pad", "before", "calls", "cases"]
theorem sc__law_case : FnScope N__law_case ["kind", "size", "tail"] (defScope s__law_case) := ⟨rfl, rfl, rfl, by decide +kernel, rfl, by decide +kernel, by decide +kernel⟩
abbrev s_law : Stmt := topS 33
abbrev N_law : List Str := ["script", "first", "tail", "found", "tokens", "actual", "depth", "good"]
theorem sc_law : FnScope N_law ["script"] (defScope s_law) := ⟨rfl, rfl, rfl, by decide +kernel, rfl, by decide +kernel, by decide +kernel⟩
abbrev s_InvalidRecipe___init__ : Stmt := inClass (topS 2) 0
abbrev N_InvalidRecipe___init__ : List Str := ["self", "path", "line", "column", "reason"]
theorem sc_InvalidRecipe___init__ : FnScope N_InvalidRecipe___init__ ["self", "path", "line", "column", "reason"] (defScope s_InvalidRecipe___init__) := ⟨rfl, rfl, rfl, by decide +kernel, rfl, by decide +kernel, by decide +kernel⟩
abbrev s_BadToken___init__ : Stmt := inClass (topS 21) 0
abbrev N_BadToken___init__ : List Str := ["self", "column", "reason"]
theorem sc_BadToken___init__ : FnScope N_BadToken___init__ ["self", "column", "reason"] (defScope s_BadToken___init__) := ⟨rfl, rfl, rfl, by decide +kernel, rfl, by decide +kernel, by decide +kernel⟩
structure Tx (mg : Str → Option Value) : Prop where
  b_abs : mg "abs" = none
  b_all : mg "all" = none
  b_int : mg "int" = none
  b_isinstance : mg "isinstance" = none
  b_len : mg "len" = none
  b_list : mg "list" = none
  b_tuple : mg "tuple" = none
  c_IDENTIFIER_LENGTH : ∃ u, mg "IDENTIFIER_LENGTH" = some u ∧ RelV (.int 12) u
  c_LETTERS : ∃ u, mg "LETTERS" = some u ∧ RelV (.str (Str.ofString "abcdefghijklmnopqrstuvwxyz")) u
  c_IDENTIFIER_SIGNS : ∃ u, mg "IDENTIFIER_SIGNS" = some u ∧ RelV (.str (Str.ofString "abcdefghijklmnopqrstuvwxyz0123456789_")) u
  c_SIGNS : ∃ u, mg "SIGNS" = some u ∧ RelV (.str (Str.ofString "(),+")) u
  c_QUOTE : ∃ u, mg "QUOTE" = some u ∧ RelV (.str (Str.ofString "\"")) u
  c_BACKSLASH : ∃ u, mg "BACKSLASH" = some u ∧ RelV (.str (Str.ofString "\\")) u
  c_WORD_ENDS : ∃ u, mg "WORD_ENDS" = some u ∧ RelV (.str (Str.ofString " \"(),+")) u
  c_MOST_CALLS : ∃ u, mg "MOST_CALLS" = some u ∧ RelV (.int 6) u
structure Gx (K : PySem.W.Frag) (mg : Str → Option Value) where
  c_BuildError : Addr
  g_BuildError : mg "BuildError" = some (.ref c_BuildError)
  b_BuildError : Kn.BaseC K c_BuildError
  c_InvalidRecipe : Addr
  g_InvalidRecipe : mg "InvalidRecipe" = some (.ref c_InvalidRecipe)
  x_InvalidRecipe : Kn.Xc K c_InvalidRecipe c_BuildError
  n_InvalidRecipe_path : PySem.W.findIn K (.ref c_InvalidRecipe) "path" = some none
  n_InvalidRecipe_line : PySem.W.findIn K (.ref c_InvalidRecipe) "line" = some none
  n_InvalidRecipe_column : PySem.W.findIn K (.ref c_InvalidRecipe) "column" = some none
  n_InvalidRecipe_reason : PySem.W.findIn K (.ref c_InvalidRecipe) "reason" = some none
  c_BadToken : Addr
  g_BadToken : mg "BadToken" = some (.ref c_BadToken)
  x_BadToken : Kn.Xc K c_BadToken c_BuildError
  n_BadToken_column : PySem.W.findIn K (.ref c_BadToken) "column" = some none
  n_BadToken_reason : PySem.W.findIn K (.ref c_BadToken) "reason" = some none
local macro_rules | `(tactic| walk_at "ev") => `(tactic| first
  | exact ev_c
  | exact ev_var rfl
  | exact ea_nil
  | exact eo_none
  | (apply eo_some; walk_at "ev")
  | (apply ea_cons <;> walk_at "ev")
  | (apply ev_op <;> first | walk_at "rv" | walk_at "ev")
  | (apply ev_un <;> first | exact ru_neg | walk_at "ev")
  | (apply ev_chain <;> first | walk_at "rv" | walk_at "ev")
  | (apply et_test; walk_at "ev")
  | (apply et_B; walk_at "ev")
  | (apply et_not; walk_at "ev")
  | (apply et_and; walk_at "ev"; intro _; walk_at "ev")
  | (apply et_or; walk_at "ev"; intro _; walk_at "ev")
  | (apply ev_andV; walk_at "ev"; intro _; walk_at "ev")
  | (apply ev_orV; walk_at "ev"; intro _; walk_at "ev")
  | (apply ev_notV; walk_at "ev")
  | (apply ev_cb <;> first | walk_at "rc" | walk_at "ev"))
local macro_rules | `(tactic| walk_at "rv") => `(tactic| first
  | exact rv_eqI | exact rv_neI | exact rv_eqS | exact rv_neS | exact rv_le | exact rv_lt | exact rv_ge | exact rv_gt | exact rv_inS | exact rv_ninS
  | exact rv_I0
  | exact rv_pow ⟨by decide, by decide, by decide⟩
  | exact rv_mod (by first | decide | omega)
  | exact rv_fdiv ⟨by decide, by decide⟩
  | exact rv_fdiv ⟨by omega, by omega⟩
  | exact rv_addS (by first | assumption | omega)
  | exact rv_mul (.inr ⟨by decide, by decide⟩) | exact rv_mul (.inl ⟨by decide, by decide⟩)
  | exact rv_mul (by first | exact .inl ⟨by omega, by omega⟩ | exact .inr ⟨by omega, by omega⟩)
  | exact rv_eq rfl | exact rv_ne rfl)
local macro_rules | `(tactic| walk_at "rc") => `(tactic| first
  | exact rc_abs | exact rc_int | exact rc_intB | exact rc_ord
  | exact rc_lenS (by first | assumption | omega))

section
variable {P : Program} {w : World} {K : PySem.W.Frag} {mg : Str → Option Value} {base : Heap}
theorem ok_InvalidRecipe___init__ {f : Addr} {fd : FuncData} (F : Fun K "__init__" "InvalidRecipe.__init__" s_InvalidRecipe___init__ f fd) (T : Tx mg) (G : Gx K mg)  : FnOk P w K mg base CX0 1 f fd ["self", "path", "line", "column", "reason"] (sp_I4 K) := by
  refine F.ok sc_InvalidRecipe___init__ (fun vs H Q E h => ?_) (fun cdv A outer s H vs Q E hr h => ?_)
  · obtain ⟨a, C, p, n, c, r, rfl, _⟩ := h
    rfl
  · obtain ⟨a, C, p, n, c, r, rfl, ⟨hp, hr1, hn, hc⟩, ha, oe, nf, q⟩ := h
    refine ⟨_, (pss_cons (ps_expr (Kn.pe_beinit G.b_BuildError (by rfl) G.g_BuildError (pa_cons (pv 0) (pa_cons (pe_joined (.cons (pe_fmt (pv 1)) (.cons pe_str (.cons (pe_fmt (pv 2)) (.cons pe_str (.cons (pe_fmt (pv 3)) (.cons pe_str (.cons (pe_fmt (pv 4)) .nil)))))))) pa_nil))))
      (pss_cons (ps_ost (pv 0) (pv 1))
      (pss_cons (ps_ost (pv 0) (pv 2))
      (pss_cons (ps_ost (pv 0) (pv 3))
      (pss_one (ps_ost (pv 0) (pv 4))))))), ?_⟩
    have l1 := num_len hn
    have l2 := num_len hc
    exact init4_body (p := p) (n := n) (c := c) (r := r) rfl (ev_js (.cons (ev_fmtS (ev_var rfl) (by omega)) (.cons (ev_cS (l := (Str.ofString ", line ").cps.toList) rfl) (.cons (ev_fmtI (ev_var rfl) hn) (.cons (ev_cS (l := (Str.ofString ", column ").cps.toList) rfl) (.cons (ev_fmtI (ev_var rfl) hc) (.cons (ev_cS (l := (Str.ofString ": ").cps.toList) rfl) (.cons (ev_fmtS (ev_var rfl) (by omega)) .nil))))))) (by show p.length + (7 + ((TL.numL n).length + (9 + ((TL.numL c).length + (2 + (r.length + 0)))))) ≤ 100000; omega)) ha oe nf fun dx H' h1 h2 m => q dx H' h1 h2 m

theorem ok_BadToken___init__ {f : Addr} {fd : FuncData} (F : Fun K "__init__" "BadToken.__init__" s_BadToken___init__ f fd) (T : Tx mg) (G : Gx K mg)  : FnOk P w K mg base CX0 1 f fd ["self", "column", "reason"] (sp_I2 K) := by
  refine F.ok sc_BadToken___init__ (fun vs H Q E h => ?_) (fun cdv A outer s H vs Q E hr h => ?_)
  · obtain ⟨a, C, c, r, rfl, _⟩ := h
    rfl
  · obtain ⟨a, C, c, r, rfl, ⟨hr1, hc⟩, ha, oe, nf, q⟩ := h
    refine ⟨_, (pss_cons (ps_expr (Kn.pe_beinit G.b_BuildError (by rfl) G.g_BuildError (pa_cons (pv 0) (pa_cons (pe_joined (.cons pe_str (.cons (pe_fmt (pv 1)) (.cons pe_str (.cons (pe_fmt (pv 2)) .nil))))) pa_nil))))
      (pss_cons (ps_ost (pv 0) (pv 1))
      (pss_one (ps_ost (pv 0) (pv 2))))), ?_⟩
    have l2 := num_len hc
    exact init2_body (c := c) (r := r) rfl (ev_js (.cons (ev_cS (l := (Str.ofString "column ").cps.toList) rfl) (.cons (ev_fmtI (ev_var rfl) hc) (.cons (ev_cS (l := (Str.ofString ": ").cps.toList) rfl) (.cons (ev_fmtS (ev_var rfl) (by omega)) .nil)))) (by show 7 + ((TL.numL c).length + (2 + (r.length + 0))) ≤ 100000; omega)) ha oe nf fun dx H' h1 h2 m => q dx H' h1 h2 m

end
/-! ### scanning -/
def unt : List Nat := (Str.ofString "unterminated string").cps.toList
def escR : List Nat := (Str.ofString "invalid escape").cps.toList
def SGN : List Nat := (Str.ofString "(),+").cps.toList
def WEN : List Nat := (Str.ofString " \"(),+").cps.toList
def kStr : List Nat := (Str.ofString "string").cps.toList
def kSig : List Nat := (Str.ofString "sign").cps.toList
def kWrd : List Nat := (Str.ofString "word").cps.toList
def escF : List (Str × V) := [("n", .str (Str.ofString "\n")), (Str.ofString "\"", .str (Str.ofString "\"")), (Str.ofString "\\", .str (Str.ofString "\\"))]
def escOf (c : Nat) : Option Nat := if c = 110 then some 10 else if c = 34 then some 34 else if c = 92 then some 92 else none
theorem esc_look (c : Nat) : wdLook escF (S [c]) = (escOf c).map fun d => V.str (S [d]) := by
  have e1 : ("n" : Str) = S [110] := S1 _ (by decide +kernel)
  have e2 : Str.ofString "\"" = S [34] := S1 _ (by decide +kernel)
  have e3 : Str.ofString "\\" = S [92] := S1 _ (by decide +kernel)
  have e4 : Str.ofString "\n" = S [10] := S1 _ (by decide +kernel)
  have inj : ∀ {a b : Nat}, (S [a] = S [b]) ↔ a = b := fun {a b} => ⟨fun h => (List.cons.inj (S_inj h)).1, fun h => by rw [h]⟩
  unfold wdLook escF escOf
  rw [e1, e2, e3, e4]
  by_cases h1 : c = 110
  · subst h1
    rw [List.find?_cons]
    simp
  · rw [if_neg h1, List.find?_cons, decide_eq_false (fun z => h1 (inj.mp z).symm)]
    by_cases h2 : c = 34
    · subst h2
      rw [List.find?_cons]
      simp
    · rw [if_neg h2]
      dsimp only
      rw [List.find?_cons, decide_eq_false (fun z => h2 (inj.mp z).symm)]
      by_cases h3 : c = 92
      · subst h3
        rw [List.find?_cons]
        simp
      · rw [if_neg h3]
        dsimp only
        rw [List.find?_cons, decide_eq_false (fun z => h3 (inj.mp z).symm)]
        rfl
theorem esc_look0 : wdLook escF (S []) = none := by
  have ne : ∀ {a : Nat}, ¬ S [a] = S [] := fun {a} h => List.cons_ne_nil _ _ (S_inj h)
  have e1 : ("n" : Str) = S [110] := S1 _ (by decide +kernel)
  have e2 : Str.ofString "\"" = S [34] := S1 _ (by decide +kernel)
  have e3 : Str.ofString "\\" = S [92] := S1 _ (by decide +kernel)
  unfold wdLook escF
  rw [e1, e2, e3, List.find?_cons, decide_eq_false ne]
  dsimp only
  rw [List.find?_cons, decide_eq_false ne]
  dsimp only
  rw [List.find?_cons, decide_eq_false ne]
  rfl
/-- what reading gives: or the column and the reason of the first error -/
abbrev Rs (α : Type) := α ⊕ (Nat × List Nat)
/-- the part of a string at an index: its text and the index behind it -/
def partG (l : List Nat) (at_ : Nat) : Rs (List Nat × Nat) := match l.drop at_ with
  | [] => .inl ([], at_)
  | c :: r => if c = 92 then (match r with
      | [] => .inl ([], at_ + 2)
      | d :: _ => match escOf d with
        | some e => .inl ([e], at_ + 2)
        | none => .inr (at_ + 1, escR)) else .inl ([c], at_ + 1)
/-- the string whose first quote is at q -/
def strG : List Nat → Nat → Nat → List Nat → Rs (List Nat × Nat)
  | [], _, q, _ => .inr (q + 1, unt)
  | c :: r, at_, q, acc => if c = 34 then .inl (acc, at_ + 1) else if c = 92 then (match r with
      | [] => .inr (q + 1, unt)
      | d :: r' => match escOf d with
        | some e => strG r' (at_ + 2) q (acc ++ [e])
        | none => .inr (at_ + 1, escR)) else strG r (at_ + 1) q (acc ++ [c])
def skip (l : List Nat) (at_ : Nat) : Nat := at_ + ((l.drop at_).takeWhile fun c => decide (c = 32)).length
abbrev Tok3 := List Nat × List Nat × Nat
def wordG (l : List Nat) (at_ : Nat) : List Nat := (l.drop at_).takeWhile fun c => !decide (c ∈ WEN)
/-- the kind and the text of the token at an index, and the index behind it -/
def tokG (l : List Nat) (at_ : Nat) : Rs Tok3 := match l.drop at_ with
  | [] => .inl (kWrd, [], at_)
  | c :: r => if c = 34 then (match strG r (at_ + 1) at_ [] with
      | .inl (t, b) => .inl (kStr, t, b)
      | .inr e => .inr e) else if c ∈ SGN then .inl (kSig, [c], at_ + 1) else .inl (kWrd, wordG l at_, at_ + (wordG l at_).length)
def scanG (l : List Nat) : Nat → Nat → List Tok3 → Rs (List Tok3)
  | 0, _, acc => .inl acc
  | n + 1, at_, acc => if at_ < l.length then (match tokG l at_ with
      | .inl (k, t, b) => scanG l n (skip l b) (acc ++ [(k, t, at_ + 1)])
      | .inr e => .inr e) else .inl acc
def isRem (l : List Nat) : Bool := decide ((l.dropWhile fun d => decide (d = 32))[0]? = some 35)
def scan (l : List Nat) : Rs (List Tok3) := if isRem l = true then .inl [] else scanG l l.length (skip l 0) []
def pairD (x : List Nat × Nat) : PyData := .tuple [.str (S x.1), .int (x.2 : Int)]
def tokD (x : Tok3) : PyData := .tuple [.str (S x.1), .str (S x.2.1), .int (x.2.2 : Int)]
/-- what a reading def promises -/
def Rd_ {α : Type} (D : α → PyData) (H : Hp) (Q : VK) (E : XK) (C : Addr) (path : List Nat) (num : Nat) (r : Rs α) : Prop :=
  (∀ x, r = .inl x → RtD H (D x) Q) ∧ ∀ c why, r = .inr (c, why) → Rz4 H E C path num c why
theorem drop_get {l : List Nat} {i c : Nat} (h : l[i]? = some c) : l.drop i = c :: l.drop (i + 1) := by
  obtain ⟨hi, e⟩ := List.getElem?_eq_some_iff.mp h
  rw [List.drop_eq_getElem_cons hi, e]
theorem tw_mem {p : Nat → Bool} {l : List Nat} {a : Nat} (h : l.length ≤ a) : l.drop a = [] := List.drop_of_length_le h
theorem skip_ge (l : List Nat) (a : Nat) : a ≤ skip l a := Nat.le_add_right _ _
theorem skip_end {l : List Nat} {a : Nat} (h : ¬ (a < l.length ∧ l[a]? = some 32)) : skip l a = a := by
  unfold skip
  by_cases ha : a < l.length
  · have e : l[a]? = some l[a] := List.getElem?_eq_getElem ha
    rw [drop_get e, List.takeWhile_cons, decide_eq_false (fun z => h ⟨ha, by rw [e, z]⟩)]
    rfl
  · rw [tw_mem (p := fun _ => true) (by omega)]
    rfl
theorem skip_step {l : List Nat} {a : Nat} (h : l[a]? = some 32) : skip l a = skip l (a + 1) := by
  unfold skip
  rw [drop_get h, List.takeWhile_cons, decide_eq_true rfl]
  show a + ((l.drop (a + 1)).takeWhile fun c => decide (c = 32)).length.succ = _
  omega
section
variable {P : Program} {w : World} {K : PySem.W.Frag} {mg : Str → Option Value} {base : Heap}
def sp__skip_spaces (_ : PySem.W.Frag) : Sp := sp2 (fun (l : List Nat) (a : Nat) => [.str (S l), .int (a : Int)]) (fun l a _ => l.length ≤ 30000) (fun l a => .int (skip l a : Nat))
theorem ok__skip_spaces {f : Addr} {fd : FuncData} (F : Fun K "_skip_spaces" "_skip_spaces" s__skip_spaces f fd) (T : Tx mg) (G : Gx K mg)  : FnOk P w K mg base CX0 1 f fd ["line", "start"] (sp__skip_spaces K) := by
  refine F.ok sc__skip_spaces (fun vs H Q E h => ?_) (fun cdv A outer s H vs Q E hr h => ?_)
  · obtain ⟨l, a, rfl, _⟩ := h
    rfl
  · obtain ⟨l, a, rfl, hl, q⟩ := h
    refine ⟨_, (pss_cons (ps_set (i := 2) sc__skip_spaces.nd rfl (Or.inl rfl) (pv 1))
      (pss_cons (ps_while PassesOwn.never (PW.pt (pw_and (pt_cmpR op_lt (pv 2) (pe_callB Kn.cr_lenStr (by rfl) T.b_len PySem.boot_len (pa_cons (pv 0) pa_nil)) (nomark _)) (pw_and1 (pt_cmpR op_eq (pe_ix ix_str (pv 0) (pv 2) (fun _ _ => rfl)) pe_str (nomark _))))) (pss_one (ps_aug (i := 2) sc__skip_spaces.nd rfl (Or.inl rfl) pe_int ip_add)))
      (pss_one (ps_ret (pv 2))))), ?_⟩
    refine q_asg (ev_var rfl) fun H1 e1 => ?_
    refine q_while (fun m σ' H' => ∃ b, m = l.length - b ∧ σ' = [some (.str (S l)), some (.int (a : Int)), some (.int (b : Int))] ∧ Ex H H' ∧ skip l b = skip l a) (l.length - a) ⟨a, rfl, rfl, e1, rfl⟩ ?_
    rintro m σ' H2 ⟨b, rfl, rfl, e2, hb⟩
    refine ⟨decide ((b : Int) < (l.length : Int)) && decide (l[b]? = some 32), et_and (et_test (ev_op (ev_var rfl) (ev_cb (ea_cons (ev_var rfl) ea_nil) (rc_lenS (by omega))) rv_lt)) fun h => ?_, fun h H3 e3 => ?_, fun h H3 e3 => ?_⟩
    · have hlt : b < l.length := by
        have := of_decide_eq_true h
        omega
      have e := List.getElem?_eq_getElem hlt
      rw [e]
      exact et_is (et_test (ev_op (ev_idxS (ev_var rfl) (ev_var rfl) (by omega) (atI_nat e)) (ev_cS (l := [32]) rfl) rv_eqS)) (by simp)
    · rw [Bool.and_eq_true, decide_eq_true_eq, decide_eq_true_eq] at h
      refine ⟨fun σ' H' => σ' = [some (.str (S l)), some (.int (a : Int)), some (.int ((b : Int) + 1))] ∧ Ex H H', fun σ2 H4 ⟨z1, z2⟩ => ⟨l.length - (b + 1), by omega, b + 1, rfl, by rw [z1, Int.natCast_add]; rfl, z2, by rw [← skip_step h.2, hb]⟩, ?_⟩
      exact s_aug (a := (b : Int)) (b := 1) rfl ev_c fun H4 e4 => ⟨rfl, (e2.trans e3).trans e4⟩
    · refine s_ret (v := .int ((skip l a : Nat) : Int)) (ev_is (ev_var rfl) ?_) fun H4 e4 => q H4 ((e2.trans e3).trans e4)
      rw [← hb, skip_end fun z => ?_]
      rw [decide_eq_true (show (b : Int) < (l.length : Int) by omega), decide_eq_true z.2] at h
      cases h
/-- reading a line: the arguments -/
def ScA (path l : List Nat) (num a : Nat) : Prop := path.length ≤ 9000 ∧ l.length ≤ 30000 ∧ num < 10 ^ 9 ∧ a ≤ 40000
def sp__string_part (G : Gx K mg) : Sp := fun vs H Q E => ∃ (path l : List Nat) (num a : Nat), vs = [.str (S path), .int (num : Int), .str (S l), .int (a : Int)] ∧ ScA path l num a ∧ a < l.length ∧ Rd_ pairD H Q E G.c_InvalidRecipe path num (partG l a)
theorem nf4 (G : Gx K mg) : Nf4 K G.c_InvalidRecipe := ⟨G.n_InvalidRecipe_path, G.n_InvalidRecipe_line, G.n_InvalidRecipe_column, G.n_InvalidRecipe_reason⟩
theorem evd_pair {σ : L2.St} {H : Hp} {t1 t2 : TE} {t : List Nat} {b : Nat} (h1 : Ev t1 σ H (.str (S t))) (h2 : Ev t2 σ H (.int (b : Int))) : EvD (tTup (tCons t1 (tCons t2 tNil))) σ H (pairD (t, b)) :=
  evd_tup (eda_cons (evd_str h1) (eda_cons (evd_int h2) eda_nil)) (by show 2 ≤ 100000; decide)
theorem ev_addN {σ : L2.St} {H : Hp} {te : TE} {n m : Nat} {k : Int} (h : Ev te σ H (.int (n : Int))) (hk : k = (m : Int)) : Ev (tOp (rI0 fun i j => .int (i + j)) te (tC (.int k))) σ H (.int ((n + m : Nat) : Int)) := by
  subst hk
  exact ev_is (ev_op h ev_c rv_I0) (by rw [Int.natCast_add])
theorem ok__string_part {f : Addr} {fd : FuncData} (F : Fun K "_string_part" "_string_part" s__string_part f fd) (T : Tx mg) (G : Gx K mg) (Z_InvalidRecipe : Kn.Xk P w K mg base 1 "InvalidRecipe" G.c_InvalidRecipe (sp_I4 K)) {D_ESCAPES : Addr} (W_ESCAPES : Kn.WD K w mg "ESCAPES" D_ESCAPES escF) : FnOk P w K mg base (L2.CX P w) 3 f fd ["path", "number", "line", "at"] (sp__string_part G) := by
  refine F.okX sc__string_part (fun vs H Q E h => ?_) (fun cdv A outer s H vs Q E hr h => ?_)
  · obtain ⟨path, l, num, a, rfl, _⟩ := h
    rfl
  · obtain ⟨path, l, num, a, rfl, ⟨hp, hl, hn, ha⟩, hal, q, qe⟩ := h
    refine ⟨_, (pss_cons (ps_if (pt_cmpR op_ne (pe_ix ix_str (pv 2) (pv 3) (fun _ _ => rfl)) (C8.pe_gc (by rfl) T.c_BACKSLASH) (nomark _)) (pss_one (ps_ret (pe_tup (pa_cons (pe_ix ix_str (pv 2) (pv 3) (fun _ _ => rfl)) (pa_cons (pe_op op_add (pv 3) pe_int) pa_nil))))) pss_nil)
      (pss_cons (ps_set (i := 4) sc__string_part.nd rfl (Or.inl rfl) (pe_slice sl_str (pv 2) (po_some (pe_op op_add (pv 3) pe_int)) (po_some (pe_op op_add (pv 3) pe_int))))
      (pss_cons (ps_if (PW.pt (pw_and (pt_cmpR op_ne (pv 4) pe_str (nomark _)) (pw_and1 (pt_cmpR (Kn.op_notIn_wd W_ESCAPES) (pv 4) (Kn.pe_wd W_ESCAPES (by rfl)) rfl)))) (pss_one (Kn.ps_xk Z_InvalidRecipe hr (by decide) rfl (takes_of rfl rfl rfl rfl) (by rfl) (pa_cons (pv 0) (pa_cons (pv 1) (pa_cons (pe_op op_add (pv 3) pe_int) (pa_cons pe_str pa_nil)))))) pss_nil)
      (pss_one (ps_ret (pe_tup (pa_cons (Kn.pe_wget2 W_ESCAPES (Kn.pe_wd W_ESCAPES (by rfl)) (pv 4) pe_str ⟨rfl, rfl, rfl, rfl⟩) (pa_cons (pe_op op_add (pv 3) pe_int) pa_nil)))))))), ?_⟩
    have eg := List.getElem?_eq_getElem hal
    generalize l[a] = c at eg
    have hd := drop_get eg
    refine q_when (b := !decide (c = 92)) (et_is (et_test (ev_op (ev_idxS (ev_var rfl) (ev_var rfl) (by omega) (atI_nat eg)) (ev_cS (l := [92]) rfl) rv_neS)) (by simp)) (fun hb H1 e1 => ?_) fun hb H1 e1 => ?_
    · have hc : ¬ c = 92 := fun z => by rw [decide_eq_true z] at hb; cases hb
      have hr2 : partG l a = .inl ([c], a + 1) := by unfold partG; rw [hd]; dsimp only; rw [if_neg hc]
      exact s_retD (evd_pair (ev_idxS (ev_var rfl) (ev_var rfl) (by omega) (atI_nat eg)) (ev_addN (m := 1) (ev_var rfl) rfl)) (((q _ hr2).mono e1))
    have hc : c = 92 := by
      by_cases z : c = 92
      · exact z
      · rw [decide_eq_false z] at hb; cases hb
    refine q_asg (v := .str (S ((l.drop (a + 1)).take 1))) (ev_is (ev_slS (ev_var rfl) (eo_some (ev_addN (m := 1) (ev_var rfl) rfl)) (eo_some (ev_addN (m := 2) (ev_var rfl) rfl)) (by omega)) (by rw [cutS_nat]; congr 3; omega)) fun H2 e2 => ?_
    cases hrest : l.drop (a + 1) with
    | nil =>
      have hr2 : partG l a = .inl ([], a + 2) := by unfold partG; rw [hd, hrest]; dsimp only; rw [if_pos hc]
      refine q_when (b := false) (et_is (et_and (a := false) (b := false) (et_is (et_test (ev_op (ev_var rfl) (ev_cS (l := []) rfl) rv_neS)) (by simp)) fun z => nomatch z) rfl) (fun z => nomatch z) fun _ H3 e3 => ?_
      refine s_retD (evd_pair (ev_is (ev_wget2 (l := []) ev_c (ev_var rfl) (ev_cS (l := []) rfl)) (by rw [esc_look0]; rfl)) (ev_addN (m := 2) (ev_var rfl) rfl)) ((q _ hr2).mono ((e1.trans e2).trans e3))
    | cons d r =>
      have hlk := esc_look d
      cases he : escOf d with
      | none =>
        rw [he] at hlk
        have hr2 : partG l a = .inr (a + 1, escR) := by unfold partG; rw [hd, hrest]; dsimp only; rw [if_pos hc, he]
        refine q_when (b := true) (et_is (et_and (a := true) (b := true) (et_is (et_test (ev_op (ev_var rfl) (ev_cS (l := []) rfl) rv_neS)) (by simp)) fun _ => et_is (et_test (ev_op (ev_var rfl) ev_c (rv_wnin (l := [d])))) (by rw [hlk]; rfl)) rfl) (fun _ H3 e3 => ?_) (fun z => nomatch z)
        exact raise4 (W := fun cls d _ H => E cls d H) (n := num) (c := a + 1) G.x_InvalidRecipe.oe (nf4 G) ⟨hp, by decide +kernel, hn, by omega⟩ (ev_var rfl) (ev_var rfl) (ev_addN (m := 1) (ev_var rfl) rfl) (ev_cS (l := escR) rfl) fun d2 H' e hd2 => qe _ _ hr2 d2 H' (((e1.trans e2).trans e3).trans e) hd2
      | some e0 =>
        rw [he] at hlk
        have hr2 : partG l a = .inl ([e0], a + 2) := by unfold partG; rw [hd, hrest]; dsimp only; rw [if_pos hc, he]
        refine q_when (b := false) (et_is (et_and (a := true) (b := false) (et_is (et_test (ev_op (ev_var rfl) (ev_cS (l := []) rfl) rv_neS)) (by simp)) fun _ => et_is (et_test (ev_op (ev_var rfl) ev_c (rv_wnin (l := [d])))) (by rw [hlk]; rfl)) rfl) (fun z => nomatch z) fun _ H3 e3 => ?_
        refine s_retD (evd_pair (ev_is (ev_wget2 (l := [d]) ev_c (ev_var rfl) (ev_cS (l := []) rfl)) (by rw [hlk]; rfl)) (ev_addN (m := 2) (ev_var rfl) rfl)) ((q _ hr2).mono ((e1.trans e2).trans e3))
end

section
variable {P : Program} {w : World} {K : PySem.W.Frag} {mg : Str → Option Value} {base : Heap}
def sp__string (G : Gx K mg) : Sp := fun vs H Q E => ∃ (path l : List Nat) (num a : Nat), vs = [.str (S path), .int (num : Int), .str (S l), .int (a : Int)] ∧ ScA path l num a ∧ a < l.length ∧ Rd_ pairD H Q E G.c_InvalidRecipe path num (strG (l.drop (a + 1)) (a + 1) a [])
theorem strG_cons {c : Nat} {r : List Nat} {b q : Nat} {acc : List Nat} : strG (c :: r) b q acc = if c = 34 then .inl (acc, b + 1) else if c = 92 then (match r with
      | [] => .inr (q + 1, unt)
      | d :: r' => match escOf d with
        | some e => strG r' (b + 2) q (acc ++ [e])
        | none => .inr (b + 1, escR)) else strG r (b + 1) q (acc ++ [c]) := by
  conv => lhs; unfold strG
theorem strG_nil {b q : Nat} {acc : List Nat} : strG [] b q acc = .inr (q + 1, unt) := by unfold strG; rfl
theorem str_part {l : List Nat} {b q : Nat} {acc t : List Nat} {b2 : Nat} (hb : b < l.length) (hc : l[b]? ≠ some 34) (h : partG l b = .inl (t, b2)) : strG (l.drop b) b q acc = strG (l.drop b2) b2 q (acc ++ t) ∧ b < b2 ∧ b2 ≤ b + 2 := by
  have eg := List.getElem?_eq_getElem hb
  generalize l[b] = c at eg
  have hd := drop_get eg
  have hc34 : ¬ c = 34 := fun z => hc (by rw [eg, z])
  unfold partG at h
  rw [hd] at h ⊢
  dsimp only at h
  rw [strG_cons, if_neg hc34]
  by_cases h92 : c = 92
  · rw [if_pos h92] at h ⊢
    cases hr : l.drop (b + 1) with
    | nil =>
      rw [hr] at h
      cases h
      have e2 : l.drop (b + 2) = [] := by
        have : l.length ≤ b + 1 := List.drop_eq_nil_iff.mp hr
        exact List.drop_of_length_le (by omega)
      rw [e2]
      exact ⟨strG_nil.symm, by omega, by omega⟩
    | cons d r =>
      rw [hr] at h
      dsimp only at h ⊢
      have e2 : l.drop (b + 2) = r := by
        have : l.drop (b + 1 + 1) = (l.drop (b + 1)).drop 1 := by rw [List.drop_drop]
        rw [this, hr]
        rfl
      cases he : escOf d with
      | none => rw [he] at h; cases h
      | some e =>
        rw [he] at h
        cases h
        rw [e2]
        exact ⟨rfl, by omega, by omega⟩
  · rw [if_neg h92] at h ⊢
    cases h
    exact ⟨rfl, by omega, by omega⟩
theorem str_err {l : List Nat} {b q : Nat} {acc : List Nat} {e : Nat × List Nat} (hb : b < l.length) (hc : l[b]? ≠ some 34) (h : partG l b = .inr e) : strG (l.drop b) b q acc = .inr e := by
  have eg := List.getElem?_eq_getElem hb
  generalize l[b] = c at eg
  have hd := drop_get eg
  have hc34 : ¬ c = 34 := fun z => hc (by rw [eg, z])
  unfold partG at h
  rw [hd] at h ⊢
  dsimp only at h
  rw [strG_cons, if_neg hc34]
  by_cases h92 : c = 92
  · rw [if_pos h92] at h ⊢
    cases hr : l.drop (b + 1) with
    | nil => rw [hr] at h; cases h
    | cons d r =>
      rw [hr] at h
      dsimp only at h ⊢
      cases he : escOf d with
      | none => rw [he] at h; cases h; rfl
      | some e => rw [he] at h; cases h
  · rw [if_neg h92] at h
    cases h
theorem sum_app (ps : List (List Nat)) (t : List Nat) : ((ps ++ [t]).map (·.length)).sum = (ps.map (·.length)).sum + t.length := by
  rw [List.map_append, List.sum_append]
  simp
theorem part_len {l : List Nat} {b b2 : Nat} {t : List Nat} (h : partG l b = .inl (t, b2)) : t.length ≤ 1 := by
  unfold partG at h
  split at h
  · cases h; simp
  · split at h
    · split at h
      · cases h; simp
      · split at h
        · cases h; simp
        · cases h
    · cases h; simp
theorem pairD_inv {H : Hp} {v : V} {x : List Nat × Nat} (h : Dt H v (pairD x)) : ∃ a, v = .ref a ∧ H a = some (.tup [.str (S x.1), .int (x.2 : Int)]) := by
  obtain ⟨a, xs, rfl, ha, hx⟩ := Dt.tup_inv h
  cases hx with
  | cons h1 r1 =>
    cases r1 with
    | cons h2 r2 =>
      cases r2
      rw [h1.str_inv, h2.int_inv] at ha
      exact ⟨a, rfl, ha⟩
theorem tokD_inv {H : Hp} {v : V} {x : Tok3} (h : Dt H v (tokD x)) : ∃ a, v = .ref a ∧ H a = some (.tup [.str (S x.1), .str (S x.2.1), .int (x.2.2 : Int)]) := by
  obtain ⟨a, xs, rfl, ha, hx⟩ := Dt.tup_inv h
  cases hx with
  | cons h1 r1 =>
    cases r1 with
    | cons h2 r2 =>
      cases r2 with
      | cons h3 r3 =>
        cases r3
        rw [h1.str_inv, h2.str_inv, h3.int_inv] at ha
        exact ⟨a, rfl, ha⟩
theorem evd_tok {σ : L2.St} {H : Hp} {t1 t2 t3 : TE} {x : Tok3} (h1 : Ev t1 σ H (.str (S x.1))) (h2 : Ev t2 σ H (.str (S x.2.1))) (h3 : Ev t3 σ H (.int (x.2.2 : Int))) : EvD (tTup (tCons t1 (tCons t2 (tCons t3 tNil)))) σ H (tokD x) :=
  evd_tup (eda_cons (evd_str h1) (eda_cons (evd_str h2) (eda_cons (evd_int h3) eda_nil))) (by show 3 ≤ 100000; decide)
theorem ok__string {f : Addr} {fd : FuncData} (F : Fun K "_string" "_string" s__string f fd) (T : Tx mg) (G : Gx K mg) (C__string_part : Kn.ClX P w K mg base 3 "_string_part" (sp__string_part G)) (Z_InvalidRecipe : Kn.Xk P w K mg base 1 "InvalidRecipe" G.c_InvalidRecipe (sp_I4 K)) : FnOk P w K mg base (L2.CX P w) 4 f fd ["path", "number", "line", "start"] (sp__string G) := by
  refine F.okX sc__string (fun vs H Q E h => ?_) (fun cdv A outer s H vs Q E hr h => ?_)
  · obtain ⟨path, l, num, a, rfl, _⟩ := h
    rfl
  · obtain ⟨path, l, num, a, rfl, ⟨hp, hl, hn, ha⟩, hal, q, qe⟩ := h
    refine ⟨_, (pss_cons (ps_set (i := 4) sc__string.nd rfl (Or.inl rfl) (pe_lst pa_nil))
      (pss_cons (ps_set (i := 5) sc__string.nd rfl (Or.inl rfl) (pe_op op_add (pv 3) pe_int))
      (pss_cons (ps_while (passes_of rfl) (PW.pt (pw_and (pt_cmpR op_lt (pv 5) (pe_callB Kn.cr_lenStr (by rfl) T.b_len PySem.boot_len (pa_cons (pv 2) pa_nil)) (nomark _)) (pw_and1 (pt_cmpR op_ne (pe_ix ix_str (pv 2) (pv 5) (fun _ _ => rfl)) (C8.pe_gc (by rfl) T.c_QUOTE) (nomark _))))) (pss_cons (ps_asg (Kn.pe_clX C__string_part hr (by decide) (by rfl) (takes_of rfl rfl rfl rfl) (pa_cons (pv 0) (pa_cons (pv 1) (pa_cons (pv 2) (pa_cons (pv 5) pa_nil))))) (pg_tup rfl (pgs_cons (pg_name (i := 6) sc__string.nd rfl (Or.inl rfl)) (pgs_cons (pg_name (i := 5) sc__string.nd rfl (Or.inl rfl)) pgs_nil))))
      (pss_one (ps_expr (pe_bm PySem.F.plainAttrs_list PySem.F.slot_list_append PySem.F.type_list_append mt_append (pv 4) (pa_cons (pv 6) pa_nil))))))
      (pss_cons (ps_if (pt_cmpR op_ge (pv 5) (pe_callB Kn.cr_lenStr (by rfl) T.b_len PySem.boot_len (pa_cons (pv 2) pa_nil)) (nomark _)) (pss_one (Kn.ps_xk Z_InvalidRecipe hr (by decide) rfl (takes_of rfl rfl rfl rfl) (by rfl) (pa_cons (pv 0) (pa_cons (pv 1) (pa_cons (pe_op op_add (pv 3) pe_int) (pa_cons pe_str pa_nil)))))) pss_nil)
      (pss_one (ps_ret (pe_tup (pa_cons (Kn.pe_joinN (pe_join pe_str (pv 4))) (pa_cons (pe_op op_add (pv 5) pe_int) pa_nil))))))))), ?_⟩
    refine q_asgL (el_lst ea_nil (by decide)) fun p H1 np e1 hp1 => ?_
    refine q_asg (v := .int ((a + 1 : Nat) : Int)) (ev_addN (m := 1) (ev_var rfl) rfl) fun H2 e2 => ?_
    generalize hR : strG (l.drop (a + 1)) (a + 1) a [] = R at q qe
    refine q_while (fun m σ' H' => ∃ (b : Nat) (ps : List (List Nat)) (y : Option V), m = l.length + 2 - b ∧ σ' = [some (.str (S path)), some (.int (num : Int)), some (.str (S l)), some (.int (a : Int)), some (.ref p), some (.int (b : Int)), y] ∧ Ex H H' ∧ H' p = some (.lst (ps.map fun t => V.str (S t))) ∧ b ≤ l.length + 1 ∧ ps.length ≤ b ∧ (ps.map (·.length)).sum ≤ b ∧ strG (l.drop b) b a ps.flatten = R) (l.length + 2 - (a + 1)) ⟨a + 1, [], _, rfl, rfl, e1.trans e2, e2 _ _ hp1, by omega, by show 0 ≤ _; omega, by show 0 ≤ _; omega, hR⟩ ?_
    rintro m σ' H3 ⟨b, ps, y, rfl, rfl, e3, hp3, hb1, hps, hsum, hR3⟩
    refine ⟨decide ((b : Int) < (l.length : Int)) && !decide (l[b]? = some 34), et_and (et_test (ev_op (ev_var rfl) (ev_cb (ea_cons (ev_var rfl) ea_nil) (rc_lenS (by omega))) rv_lt)) fun h => ?_, fun h H4 e4 => ?_, fun h H4 e4 => ?_⟩
    · have hlt : b < l.length := by
        have := of_decide_eq_true h
        omega
      have e := List.getElem?_eq_getElem hlt
      rw [e]
      exact et_is (et_test (ev_op (ev_idxS (ev_var rfl) (ev_var rfl) (by omega) (atI_nat e)) (ev_cS (l := [34]) rfl) rv_neS)) (by simp)
    · rw [Bool.and_eq_true, decide_eq_true_eq, Bool.not_eq_true', decide_eq_false_iff_not] at h
      obtain ⟨hlt, hq⟩ := h
      have hlt : b < l.length := by omega
      refine ⟨fun σ' H' => ∃ (b2 : Nat) (t : List Nat), b < b2 ∧ b2 ≤ b + 2 ∧ t.length ≤ 1 ∧ σ' = [some (.str (S path)), some (.int (num : Int)), some (.str (S l)), some (.int (a : Int)), some (.ref p), some (.int (b2 : Int)), some (.str (S t))] ∧ Ex H H' ∧ H' p = some (.lst ((ps ++ [t]).map fun t => V.str (S t))) ∧ strG (l.drop b2) b2 a (ps ++ [t]).flatten = R, ?_, ?_⟩
      · rintro σ2 H5 ⟨b2, t, z1, z2, z3, z4, z5, z6, z7⟩
        refine ⟨l.length + 2 - b2, by omega, b2, ps ++ [t], _, rfl, z4, z5, z6, by omega, ?_, ?_, z7⟩
        · rw [List.length_append, List.length_singleton]
          omega
        · rw [sum_app]
          omega
      · refine q_asgS (ea_cons (ev_var rfl) (ea_cons (ev_var rfl) (ea_cons (ev_var rfl) (ea_cons (ev_var rfl) ea_nil)))) fun H5 e5 => ?_
        have e35 := (e3.trans e4).trans e5
        refine ⟨path, l, num, b, rfl, ⟨hp, hl, hn, by omega⟩, hlt, fun x hx v H6 e6 hv => ?_, fun c why hx d H' e hd => qe c why ?_ d H' (e35.trans e) hd⟩
        · obtain ⟨t, b2⟩ := x
          obtain ⟨h1, h2, h3⟩ := str_part (q := a) (acc := ps.flatten) hlt hq hx
          obtain ⟨ar, rfl, har⟩ := pairD_inv hv
          refine unp2 har ?_
          refine s_app (xs := ps.map fun t => V.str (S t)) (e6 _ _ (e5 _ _ (e4 _ _ hp3))) (ev_var rfl) (ev_var rfl) (by rw [List.length_map]; omega) fun H7 e7 => ⟨b2, t, h2, h3, part_len hx, rfl, Ex.mut ((e35.trans e6).trans e7) np, ?_, ?_⟩
          · rw [List.map_append]
            exact upd_same
          · rw [← hR3, h1, List.flatten_append]
            simp
        · rw [← hR3]
          exact str_err hlt hq hx
    · refine q_when (b := decide ((l.length : Int) ≤ (b : Int))) (et_test (ev_op (ev_var rfl) (ev_cb (ea_cons (ev_var rfl) ea_nil) (rc_lenS (by omega))) rv_ge)) (fun hb H5 e5 => ?_) fun hb H5 e5 => ?_
      · have hge : l.length ≤ b := by
          have := of_decide_eq_true hb
          omega
        have hR4 : R = .inr (a + 1, unt) := by
          rw [← hR3, List.drop_of_length_le hge, strG_nil]
        exact raise4 (W := fun cls d _ H => E cls d H) (n := num) (c := a + 1) G.x_InvalidRecipe.oe (nf4 G) ⟨hp, by decide +kernel, hn, by omega⟩ (ev_var rfl) (ev_var rfl) (ev_addN (m := 1) (ev_var rfl) rfl) (ev_cS (l := unt) rfl) fun d2 H' e hd2 => qe _ _ hR4 d2 H' (((e3.trans e4).trans e5).trans e) hd2
      · have hlt : b < l.length := by
          have := of_decide_eq_false hb
          omega
        have h34 : l[b]? = some 34 := by
          rw [decide_eq_true (show (b : Int) < (l.length : Int) by omega), Bool.true_and, Bool.not_eq_false', decide_eq_true_eq] at h
          exact h
        have hR4 : R = .inl (ps.flatten, b + 1) := by
          rw [← hR3, drop_get h34, strG_cons, if_pos rfl]
        refine s_retD (evd_pair (ev_is (ev_joinV (s := []) (ys := ps) (ev_cS (l := []) rfl) (ev_var rfl) (sq_of (e5 _ _ (e4 _ _ hp3))) (by rw [List.length_nil, Nat.mul_zero]; omega)) (by rw [Kn.join_nil])) (ev_addN (m := 1) (ev_var rfl) rfl)) ((q _ hR4).mono ((e3.trans e4).trans e5))
def tokD3 (x : Tok3) : PyData := tokD x
def sp__token (G : Gx K mg) : Sp := fun vs H Q E => ∃ (path l : List Nat) (num a : Nat), vs = [.str (S path), .int (num : Int), .str (S l), .int (a : Int)] ∧ ScA path l num a ∧ a < l.length ∧ Rd_ tokD H Q E G.c_InvalidRecipe path num (tokG l a)
theorem tw_step {p : Nat → Bool} {l : List Nat} {a b c : Nat} (h : l[b]? = some c) (hp : p c = true) (hab : a ≤ b) (hw : (l.drop a).takeWhile p = (l.drop a).take (b - a) ++ (l.drop b).takeWhile p) : (l.drop a).takeWhile p = (l.drop a).take (b + 1 - a) ++ (l.drop (b + 1)).takeWhile p := by
  rw [hw, drop_get h, List.takeWhile_cons, hp]
  have e : (l.drop a).take (b + 1 - a) = (l.drop a).take (b - a) ++ [c] := by
    rw [show b + 1 - a = (b - a) + 1 by omega, List.take_add_one, List.getElem?_drop, show a + (b - a) = b by omega, h]
    rfl
  rw [e]
  simp
theorem ok__token {f : Addr} {fd : FuncData} (F : Fun K "_token" "_token" s__token f fd) (T : Tx mg) (G : Gx K mg) (C__string : Kn.ClX P w K mg base 4 "_string" (sp__string G)) : FnOk P w K mg base (L2.CX P w) 5 f fd ["path", "number", "line", "start"] (sp__token G) := by
  refine F.okX sc__token (fun vs H Q E h => ?_) (fun cdv A outer s H vs Q E hr h => ?_)
  · obtain ⟨path, l, num, a, rfl, _⟩ := h
    rfl
  · obtain ⟨path, l, num, a, rfl, ⟨hp, hl, hn, ha⟩, hal, q, qe⟩ := h
    refine ⟨_, (pss_cons (ps_if (pt_cmpR op_eq (pe_ix ix_str (pv 2) (pv 3) (fun _ _ => rfl)) (C8.pe_gc (by rfl) T.c_QUOTE) (nomark _)) (pss_cons (ps_asg (Kn.pe_clX C__string hr (by decide) (by rfl) (takes_of rfl rfl rfl rfl) (pa_cons (pv 0) (pa_cons (pv 1) (pa_cons (pv 2) (pa_cons (pv 3) pa_nil))))) (pg_tup rfl (pgs_cons (pg_name (i := 4) sc__token.nd rfl (Or.inl rfl)) (pgs_cons (pg_name (i := 5) sc__token.nd rfl (Or.inl rfl)) pgs_nil))))
      (pss_one (ps_ret (pe_tup (pa_cons pe_str (pa_cons (pv 4) (pa_cons (pv 5) pa_nil))))))) pss_nil)
      (pss_cons (ps_if (pt_cmpR op_inS (pe_ix ix_str (pv 2) (pv 3) (fun _ _ => rfl)) (C8.pe_gc (by rfl) T.c_SIGNS) rfl) (pss_one (ps_ret (pe_tup (pa_cons pe_str (pa_cons (pe_ix ix_str (pv 2) (pv 3) (fun _ _ => rfl)) (pa_cons (pe_op op_add (pv 3) pe_int) pa_nil)))))) pss_nil)
      (pss_cons (ps_set (i := 5) sc__token.nd rfl (Or.inl rfl) (pv 3))
      (pss_cons (ps_while (passes_of rfl) (PW.pt (pw_and (pt_cmpR op_lt (pv 5) (pe_callB Kn.cr_lenStr (by rfl) T.b_len PySem.boot_len (pa_cons (pv 2) pa_nil)) (nomark _)) (pw_and1 (pt_cmpR op_notInS (pe_ix ix_str (pv 2) (pv 5) (fun _ _ => rfl)) (C8.pe_gc (by rfl) T.c_WORD_ENDS) rfl)))) (pss_one (ps_aug (i := 5) sc__token.nd rfl (Or.inl rfl) pe_int ip_add)))
      (pss_one (ps_ret (pe_tup (pa_cons pe_str (pa_cons (pe_slice sl_str (pv 2) (po_some (pv 3)) (po_some (pv 5))) (pa_cons (pv 5) pa_nil)))))))))), ?_⟩
    have eg := List.getElem?_eq_getElem hal
    generalize l[a] = c at eg
    have hd := drop_get eg
    refine q_when (b := decide (c = 34)) (et_test (ev_is (ev_op (ev_idxS (ev_var rfl) (ev_var rfl) (by omega) (atI_nat eg)) (ev_cS (l := [34]) rfl) rv_eqS) (by simp))) (fun hb H1 e1 => ?_) fun hb H1 e1 => ?_
    · have hc := of_decide_eq_true hb
      refine q_asgS (ea_cons (ev_var rfl) (ea_cons (ev_var rfl) (ea_cons (ev_var rfl) (ea_cons (ev_var rfl) ea_nil)))) fun H2 e2 => ?_
      refine ⟨path, l, num, a, rfl, ⟨hp, hl, hn, ha⟩, hal, fun x hx v H3 e3 hv => ?_, fun c2 why hx d H' e hd2 => qe c2 why ?_ d H' ((e1.trans e2).trans e) hd2⟩
      · obtain ⟨t, b2⟩ := x
        obtain ⟨ar, rfl, har⟩ := pairD_inv hv
        refine unp2 har ?_
        have hr2 : tokG l a = .inl (kStr, t, b2) := by unfold tokG; rw [hd]; dsimp only; rw [if_pos hc, hx]
        exact s_retD (evd_tok (x := (kStr, t, b2)) (ev_cS rfl) (ev_var rfl) (ev_var rfl)) ((q _ hr2).mono ((e1.trans e2).trans e3))
      · unfold tokG
        rw [hd]
        dsimp only
        rw [if_pos hc, hx]
    have hc := of_decide_eq_false hb
    refine q_when (b := decide (c ∈ SGN)) (et_test (ev_op (ev_idxS (ev_var rfl) (ev_var rfl) (by omega) (atI_nat eg)) (ev_cS (l := SGN) rfl) rv_inS)) (fun hb2 H2 e2 => ?_) fun hb2 H2 e2 => ?_
    · have hr2 : tokG l a = .inl (kSig, [c], a + 1) := by unfold tokG; rw [hd]; dsimp only; rw [if_neg hc, if_pos (of_decide_eq_true hb2)]
      exact s_retD (evd_tok (x := (kSig, [c], a + 1)) (ev_cS rfl) (ev_idxS (ev_var rfl) (ev_var rfl) (by omega) (atI_nat eg)) (ev_addN (m := 1) (ev_var rfl) rfl)) ((q _ hr2).mono (e1.trans e2))
    have hc2 := of_decide_eq_false hb2
    have hr2 : tokG l a = .inl (kWrd, wordG l a, a + (wordG l a).length) := by unfold tokG; rw [hd]; dsimp only; rw [if_neg hc, if_neg hc2]
    replace q := q _ hr2
    refine q_asg (ev_var rfl) fun H3 e3 => ?_
    refine q_while (fun m σ' H' => ∃ (b : Nat), m = l.length - b ∧ σ' = [some (.str (S path)), some (.int (num : Int)), some (.str (S l)), some (.int (a : Int)), none, some (.int (b : Int))] ∧ Ex H H' ∧ a ≤ b ∧ b ≤ l.length ∧ wordG l a = (l.drop a).take (b - a) ++ (l.drop b).takeWhile fun c => !decide (c ∈ WEN)) (l.length - a) ⟨a, rfl, rfl, (e1.trans e2).trans e3, Nat.le_refl _, by omega, by rw [Nat.sub_self, List.take_zero]; rfl⟩ ?_
    rintro m σ' H4 ⟨b, rfl, rfl, e4, hab, hbl, hw⟩
    refine ⟨decide ((b : Int) < (l.length : Int)) && !decide ((l[b]?.getD 0) ∈ WEN), et_and (et_test (ev_op (ev_var rfl) (ev_cb (ea_cons (ev_var rfl) ea_nil) (rc_lenS (by omega))) rv_lt)) fun h => ?_, fun h H5 e5 => ?_, fun h H5 e5 => ?_⟩
    · have hlt : b < l.length := by
        have := of_decide_eq_true h
        omega
      have e := List.getElem?_eq_getElem hlt
      rw [e]
      exact et_test (ev_op (ev_idxS (ev_var rfl) (ev_var rfl) (by omega) (atI_nat e)) (ev_cS (l := WEN) rfl) rv_ninS)
    · rw [Bool.and_eq_true, decide_eq_true_eq] at h
      have hlt : b < l.length := by omega
      have e := List.getElem?_eq_getElem hlt
      rw [e] at h
      refine ⟨fun σ' H' => σ' = [some (.str (S path)), some (.int (num : Int)), some (.str (S l)), some (.int (a : Int)), none, some (.int ((b : Int) + 1))] ∧ Ex H H', fun σ2 H6 ⟨z1, z2⟩ => ⟨l.length - (b + 1), by omega, b + 1, rfl, by rw [z1, Int.natCast_add]; rfl, z2, by omega, by omega, tw_step e h.2 hab hw⟩, ?_⟩
      exact s_aug (a := (b : Int)) (b := 1) rfl ev_c fun H6 e6 => ⟨rfl, (e4.trans e5).trans e6⟩
    · have hw2 : wordG l a = (l.drop a).take (b - a) := by
        rw [hw]
        by_cases hlt : b < l.length
        · have e := List.getElem?_eq_getElem hlt
          rw [decide_eq_true (show (b : Int) < (l.length : Int) by omega), e] at h
          rw [drop_get e, List.takeWhile_cons, show (!decide (l[b] ∈ WEN)) = false from h]
          simp
        · rw [List.drop_of_length_le (show l.length ≤ b by omega)]
          simp
      have hlen : a + (wordG l a).length = b := by
        rw [hw2, List.length_take, List.length_drop]
        omega
      refine s_retD (evd_tok (x := (kWrd, wordG l a, a + (wordG l a).length)) (ev_cS rfl) (ev_is (ev_slS (ev_var rfl) (eo_some (ev_var rfl)) (eo_some (ev_var rfl)) (by omega)) (by rw [cutS_nat, hw2])) (ev_is (ev_var rfl) (by rw [hlen]))) (q.mono (e4.trans e5))
end

section
variable {P : Program} {w : World} {K : PySem.W.Frag} {mg : Str → Option Value} {base : Heap}
def toksD (x : List Tok3) : PyData := .list (x.map tokD)
def sp_scan_line (G : Gx K mg) : Sp := fun vs H Q E => ∃ (path l : List Nat) (num : Nat), vs = [.str (S path), .int (num : Int), .str (S l)] ∧ ScA path l num 0 ∧ Rd_ toksD H Q E G.c_InvalidRecipe path num (scan l)
theorem strG_ge : ∀ (n : Nat) (r : List Nat) (b q : Nat) (acc : List Nat) (t : List Nat) (e : Nat), r.length ≤ n → strG r b q acc = .inl (t, e) → b < e ∧ e ≤ b + r.length
  | 0, [], _, _, _, _, _, _, h => by rw [strG_nil] at h; cases h
  | n + 1, [], _, _, _, _, _, _, h => by rw [strG_nil] at h; cases h
  | n + 1, c :: r, b, q, acc, t, e, hn, h => by
    rw [List.length_cons] at hn ⊢
    rw [strG_cons] at h
    split at h
    · cases h
      omega
    · split at h
      · cases r with
        | nil => cases h
        | cons d r' =>
          dsimp only at h
          cases he : escOf d with
          | none => rw [he] at h; cases h
          | some x =>
            rw [he] at h
            rw [List.length_cons] at hn ⊢
            have := strG_ge n r' (b + 2) q _ t e (by omega) h
            omega
      · have := strG_ge n r (b + 1) q _ t e (by omega) h
        omega
theorem tok_ge {l : List Nat} {a : Nat} (ha : a < l.length) (hs : l[a]? ≠ some 32) {x : Tok3} (h : tokG l a = .inl x) : a < x.2.2 ∧ x.2.2 ≤ l.length := by
  have eg := List.getElem?_eq_getElem ha
  generalize l[a] = c at eg
  have hd := drop_get eg
  have hdl : (l.drop (a + 1)).length = l.length - (a + 1) := List.length_drop
  unfold tokG at h
  rw [hd] at h
  dsimp only at h
  split at h
  · split at h
    · next t b hr =>
      cases h
      have := strG_ge _ _ _ _ _ _ _ (Nat.le_refl _) hr
      rw [hdl] at this
      show a < b ∧ b ≤ l.length
      omega
    · cases h
  · next hc =>
    split at h
    · cases h
      show a < a + 1 ∧ a + 1 ≤ l.length
      omega
    · next hc2 =>
      cases h
      have h1 : (wordG l a).length ≤ l.length - a := by
        have := (List.takeWhile_sublist (fun c => !decide (c ∈ WEN)) (l := l.drop a)).length_le
        rw [List.length_drop] at this
        exact this
      have h2 : 0 < (wordG l a).length := by
        unfold wordG
        rw [hd, List.takeWhile_cons]
        have hw : c ∉ WEN := fun z => by
          have hcase : ∀ c ∈ WEN, c = 32 ∨ c = 34 ∨ c ∈ SGN := by decide +kernel
          rcases hcase c z with y | y | y
          · exact hs (by rw [eg, y])
          · exact hc y
          · exact hc2 y
        rw [decide_eq_false hw]
        simp
      show a < a + (wordG l a).length ∧ _
      constructor
      · omega
      · show a + (wordG l a).length ≤ l.length
        omega
theorem skip_le (l : List Nat) {a : Nat} (h : a ≤ l.length) : skip l a ≤ l.length := by
  unfold skip
  have := (List.takeWhile_sublist (fun c => decide (c = 32)) (l := l.drop a)).length_le
  rw [List.length_drop] at this
  omega
theorem skip_ns (l : List Nat) (a : Nat) : l[skip l a]? ≠ some 32 := by
  unfold skip
  intro h
  have e : l[a + ((l.drop a).takeWhile fun c => decide (c = 32)).length]? = (l.drop a)[((l.drop a).takeWhile fun c => decide (c = 32)).length]? := by rw [List.getElem?_drop]
  rw [e] at h
  generalize l.drop a = r at h
  induction r with
  | nil => simp at h
  | cons c r ih =>
    rw [List.takeWhile_cons] at h
    by_cases hc : c = 32
    · rw [decide_eq_true hc] at h
      exact ih (by simpa using h)
    · rw [decide_eq_false hc] at h
      simp at h
      exact hc h
theorem scan_enough {l : List Nat} : ∀ (n m a : Nat) (acc : List Tok3), l[a]? ≠ some 32 → l.length - a ≤ n → l.length - a ≤ m → scanG l n a acc = scanG l m a acc
  | 0, 0, _, _, _, _, _ => rfl
  | 0, m + 1, a, acc, _, h1, _ => by
    unfold scanG
    rw [if_neg (by omega)]
  | n + 1, 0, a, acc, _, _, h2 => by
    conv => lhs; unfold scanG
    conv => rhs; unfold scanG
    rw [if_neg (by omega)]
  | n + 1, m + 1, a, acc, hs, h1, h2 => by
    conv => lhs; unfold scanG
    conv => rhs; unfold scanG
    by_cases ha : a < l.length
    · rw [if_pos ha, if_pos ha]
      cases ht : tokG l a with
      | inr e => rfl
      | inl x =>
        obtain ⟨k, t, b⟩ := x
        have := tok_ge ha hs ht
        have hg := skip_ge l b
        exact scan_enough n m (skip l b) _ (skip_ns l b) (by dsimp only at this; omega) (by dsimp only at this; omega)
    · rw [if_neg ha, if_neg ha]
theorem ok_scan_line {f : Addr} {fd : FuncData} (F : Fun K "scan_line" "scan_line" s_scan_line f fd) (T : Tx mg) (G : Gx K mg) (C__skip_spaces : Kn.Cl P w K mg base 1 "_skip_spaces" (sp__skip_spaces K)) (C__token : Kn.ClX P w K mg base 5 "_token" (sp__token G)) : FnOk P w K mg base (L2.CX P w) 6 f fd ["path", "number", "line"] (sp_scan_line G) := by
  refine F.okX sc_scan_line (fun vs H Q E h => ?_) (fun cdv A outer s H vs Q E hr h => ?_)
  · obtain ⟨path, l, num, rfl, _⟩ := h
    rfl
  · obtain ⟨path, l, num, rfl, ⟨hp, hl, hn, _⟩, q, qe⟩ := h
    refine ⟨_, (pss_cons (ps_if (pt_val (pe_m1 PySem.F.slot_str_startswith PySem.F.type_str_startswith Kn.mt_startswith (pe_m1 PySem.F.slot_str_lstrip PySem.F.type_str_lstrip Kn.mt_lstripC (pv 2) pe_str) pe_str)) (pss_one (ps_ret (pe_lst pa_nil))) pss_nil)
      (pss_cons (ps_set (i := 3) sc_scan_line.nd rfl (Or.inl rfl) (pe_lst pa_nil))
      (pss_cons (ps_set (i := 4) sc_scan_line.nd rfl (Or.inl rfl) (Kn.pe_cl C__skip_spaces hr (by decide) (by rfl) (pa_cons (pv 2) (pa_cons pe_int pa_nil))))
      (pss_cons (ps_while (passes_of rfl) (pt_cmpR op_lt (pv 4) (pe_callB Kn.cr_lenStr (by rfl) T.b_len PySem.boot_len (pa_cons (pv 2) pa_nil)) (nomark _)) (pss_cons (ps_asg (Kn.pe_clX C__token hr (by decide) (by rfl) (takes_of rfl rfl rfl rfl) (pa_cons (pv 0) (pa_cons (pv 1) (pa_cons (pv 2) (pa_cons (pv 4) pa_nil))))) (pg_tup rfl (pgs_cons (pg_name (i := 5) sc_scan_line.nd rfl (Or.inl rfl)) (pgs_cons (pg_name (i := 6) sc_scan_line.nd rfl (Or.inl rfl)) (pgs_cons (pg_name (i := 7) sc_scan_line.nd rfl (Or.inl rfl)) pgs_nil)))))
      (pss_cons (ps_expr (pe_bm PySem.F.plainAttrs_list PySem.F.slot_list_append PySem.F.type_list_append mt_append (pv 3) (pa_cons (pe_tup (pa_cons (pv 5) (pa_cons (pv 6) (pa_cons (pe_op op_add (pv 4) pe_int) pa_nil)))) pa_nil)))
      (pss_one (ps_set (i := 4) sc_scan_line.nd rfl (Or.inl rfl) (Kn.pe_cl C__skip_spaces hr (by decide) (by rfl) (pa_cons (pv 2) (pa_cons (pv 7) pa_nil))))))))
      (pss_one (ps_ret (pv 3))))))), ?_⟩
    refine q_when (b := isRem l) (et_B (ev_starts (c := 35) (ev_lstrip (ev_var rfl) (ev_cS (l := [32]) rfl) (by omega)) (ev_cS (l := [35]) rfl))) (fun hb H1 e1 => ?_) fun hb H1 e1 => ?_
    · have hr2 : scan l = .inl [] := by unfold scan; rw [if_pos hb]
      exact s_retD (evd_lst eda_nil (by decide)) ((q _ hr2).mono e1)
    have hsc : scan l = scanG l l.length (skip l 0) [] := by unfold scan; rw [if_neg (by rw [hb]; decide)]
    rw [hsc] at q qe
    refine q_asgL (el_lst ea_nil (by decide)) fun p H2 np e2 hp2 => ?_
    refine q_asg (v := .int ((skip l 0 : Nat) : Int)) (ev_c2 (a := l) (b := 0) (ea_cons (ev_var rfl) (ea_cons ev_c ea_nil)) fun _ _ => hl) fun H3 e3 => ?_
    generalize hR : scanG l l.length (skip l 0) [] = R at q qe
    have e13 := (e1.trans e2).trans e3
    refine q_while (fun m σ' H' => ∃ (b : Nat) (ts : List Tok3) (vs : List V) (y5 y6 y7 : Option V), m = l.length - b ∧ σ' = [some (.str (S path)), some (.int (num : Int)), some (.str (S l)), some (.ref p), some (.int (b : Int)), y5, y6, y7] ∧ Ex H H' ∧ H' p = some (.lst vs) ∧ DtA H' vs (ts.map tokD) ∧ l[b]? ≠ some 32 ∧ b ≤ l.length ∧ ts.length ≤ b ∧ scanG l (l.length - b) b ts = R) (l.length - skip l 0) ⟨skip l 0, [], [], _, _, _, rfl, rfl, e13, e3 _ _ hp2, .nil, skip_ns l 0, skip_le l (Nat.zero_le _), Nat.zero_le _, by rw [← hR]; exact scan_enough _ _ _ _ (skip_ns l 0) (Nat.le_refl _) (by omega)⟩ ?_
    rintro m σ' H4 ⟨b, ts, vs, y5, y6, y7, rfl, rfl, e4, hp4, hD, hns, hb1, hts, hR4⟩
    refine ⟨decide ((b : Int) < (l.length : Int)), et_test (ev_op (ev_var rfl) (ev_cb (ea_cons (ev_var rfl) ea_nil) (rc_lenS (by omega))) rv_lt), fun h H5 e5 => ?_, fun h H5 e5 => ?_⟩
    · have hlt : b < l.length := by
        have := of_decide_eq_true h
        omega
      have hstep : scanG l (l.length - b) b ts = (match tokG l b with
          | .inl (k, t, b2) => scanG l (l.length - b - 1) (skip l b2) (ts ++ [(k, t, b + 1)])
          | .inr e => .inr e) := by
        rw [show l.length - b = (l.length - b - 1) + 1 by omega]
        conv => lhs; unfold scanG
        rw [if_pos hlt]
        rfl
      refine ⟨fun σ' H' => ∃ (b2 : Nat) (x : Tok3) (vs : List V) (y5 y6 y7 : Option V), b < b2 ∧ σ' = [some (.str (S path)), some (.int (num : Int)), some (.str (S l)), some (.ref p), some (.int (b2 : Int)), y5, y6, y7] ∧ Ex H H' ∧ H' p = some (.lst vs) ∧ DtA H' vs ((ts ++ [x]).map tokD) ∧ l[b2]? ≠ some 32 ∧ b2 ≤ l.length ∧ scanG l (l.length - b2) b2 (ts ++ [x]) = R, ?_, ?_⟩
      · rintro σ2 H6 ⟨b2, x, vs2, z5, z6, z7, g1, g2, g3, g4, g5, g6, g7, g8⟩
        exact ⟨l.length - b2, by omega, b2, ts ++ [x], vs2, z5, z6, z7, rfl, g2, g3, g4, g5, g6, g7, by rw [List.length_append, List.length_singleton]; omega, g8⟩
      · refine q_asgS (ea_cons (ev_var rfl) (ea_cons (ev_var rfl) (ea_cons (ev_var rfl) (ea_cons (ev_var rfl) ea_nil)))) fun H6 e6 => ?_
        have e46 := (e4.trans e5).trans e6
        refine ⟨path, l, num, b, rfl, ⟨hp, hl, hn, by omega⟩, hlt, fun x hx v H7 e7 hv => ?_, fun c why hx d H' e hd => qe c why ?_ d H' (e46.trans e) hd⟩
        · obtain ⟨k, t, b2⟩ := x
          obtain ⟨ar, rfl, har⟩ := tokD_inv hv
          have hge := tok_ge hlt hns hx
          dsimp only at hge
          refine unp3 har ?_
          have hp7 := e7 _ _ (e6 _ _ (e5 _ _ hp4))
          have hD7 := ((hD.mono e5).mono e6).mono e7
          have hvl : vs.length = ts.length := by
            have := hD.len
            rw [List.length_map] at this
            exact this
          refine q_appD (d := tokD (k, t, b + 1)) hp7 (ev_var rfl) (evd_tok (x := (k, t, b + 1)) (ev_var rfl) (ev_var rfl) (ev_addN (m := 1) (ev_var rfl) rfl)) (by omega) fun v8 H8 e8 hv8 => ?_
          have eF := Ex.mut (o := .lst (vs ++ [v8])) ((e46.trans e7).trans e8) (fresh_back e1 np)
          have hD9 := dta_app (e8 _ _ hp7) (hD7.mono e8) hv8 (noLA_map (fun _ => rfl) ts) rfl
          refine s_asg (v := .int ((skip l b2 : Nat) : Int)) (ev_c2 (a := l) (b := b2) (ea_cons (ev_var rfl) (ea_cons (ev_var rfl) ea_nil)) fun _ _ => hl) fun H9 e9 => ⟨skip l b2, (k, t, b + 1), vs ++ [v8], _, _, _, ?_, rfl, eF.trans e9, e9 _ _ upd_same, ?_, skip_ns l b2, skip_le l hge.2, ?_⟩
          · have := skip_ge l b2
            omega
          · rw [List.map_append]
            exact hD9.mono e9
          · rw [← hR4, hstep, hx]
            dsimp only
            exact scan_enough _ _ _ _ (skip_ns l b2) (Nat.le_refl _) (by have := skip_ge l b2; omega)
        · rw [← hR4, hstep, hx]
    · have hge : ¬ b < l.length := by
        have := of_decide_eq_false h
        omega
      have hR5 : R = .inl ts := by
        rw [← hR4, show l.length - b = 0 by omega]
        rfl
      exact s_retD (evd_of (ev_var rfl) (.lst (e5 _ _ hp4) (hD.mono e5))) ((q _ hR5).mono (e4.trans e5))
end

section
variable {P : Program} {w : World} {K : PySem.W.Frag} {mg : Str → Option Value} {base : Heap}
def sp__law_cell (K : PySem.W.Frag) : Sp := sp3 (fun (a : Addr) (_ : List Int) (k : Nat) => [.ref a, .int (k : Int)]) (fun a ns _ H => SqL K H a (ns.map V.int)) (fun _ ns k => .int (L2.cellOf ns k))
theorem ok__law_cell {f : Addr} {fd : FuncData} (F : Fun K "_law_cell" "_law_cell" s__law_cell f fd) (T : Tx mg) (G : Gx K mg)  : FnOk P w K mg base CX0 1 f fd ["script", "k"] (sp__law_cell K) := by
  refine F.ok sc__law_cell (fun vs H Q E h => ?_) (fun cdv A outer s H vs Q E hr h => ?_)
  · obtain ⟨a, ns, k, rfl, _⟩ := h
    rfl
  · obtain ⟨a, ns, k, rfl, hS, q⟩ := h
    refine ⟨_, (pss_cons (ps_if (pt_cmpR op_lt (pv 1) (pe_callB Kn.cr_lenSeq (by rfl) T.b_len PySem.boot_len (pa_cons (pv 0) pa_nil)) (nomark _)) (pss_one (ps_ret (pe_callTy Kn.cr_int1 (by rfl) T.b_int (by decide +kernel) (pa_cons (pe_ix ix_list (pv 0) (pv 1) (fun _ _ => rfl)) pa_nil)))) pss_nil)
      (pss_one (ps_ret pe_int))), ?_⟩
    refine q_when (et_test (ev_op (ev_var rfl) (ev_len (ev_var rfl) hS) rv_lt)) (fun hb H1 e1 => ?_) (fun hb H1 e1 => ?_)
    · have hk : k < ns.length := by
        rw [List.length_map, decide_eq_true_eq] at hb
        omega
      exact s_ret (ev_cb (ea_cons (ev_op (ev_var rfl) (ev_var rfl) (rv_ixL (ex_l e1 hS) (atI_cell hk))) ea_nil) rc_int) fun H2 e2 => q H2 (e1.trans e2)
    · have hk : ¬ k < ns.length := by
        rw [List.length_map, decide_eq_false_iff_not] at hb
        omega
      refine s_ret ev_c fun H2 e2 => ?_
      have z : Q (.int (L2.cellOf ns k)) H2 := q H2 (e1.trans e2)
      rw [cell_out hk] at z
      exact z
theorem ev_cellA {σ : L2.St} {H : Hp} {a : Addr} {ns : List Int} {c : Nat} {ta : TA} (h : EvA ta σ H [.ref a, .int (c : Int)]) (hS : SqL K H a (ns.map V.int)) : Ev (tCB rAbs (tCons (tCall (sp__law_cell K) [] E0 ta) tNil)) σ H (.int (((L2.cellOf ns c).natAbs : Nat) : Int)) :=
  ev_cb (ea_cons (ev_c3 (a := a) (b := ns) (c := c) h fun H1 e1 => ex_l e1 hS) ea_nil) rc_abs

end
section
def lit (x : Str) : List Nat := x.cps.toList
def missT : List Nat := lit "missing token"
def unexp : List Nat := lit "unexpected token"
def missA : List Nat := lit "missing argument"
def extraA : List Nat := lit "extra argument"
def tooDeep : List Nat := lit "too deep"
def unkFun : List Nat := lit "unknown function"
def unkName : List Nat := lit "unknown name"
def invName : List Nat := lit "invalid name"
def LET : List Nat := lit "abcdefghijklmnopqrstuvwxyz"
def IDS : List Nat := lit "abcdefghijklmnopqrstuvwxyz0123456789_"
def funT : List (List Nat × Nat) := [(lit "read", 1), (lit "has", 1), (lit "list", 2), (lit "setting", 1), (lit "same", 2), (lit "not", 1), (lit "upper", 1), (lit "count", 1), (lit "sort", 1), (lit "first", 1), (lit "rest", 1), (lit "join", 2), (lit "swap", 3)]
def funF : List (Str × V) := [("read", .int 1), (Str.ofString "has", .int 1), (Str.ofString "list", .int 2), (Str.ofString "setting", .int 1), (Str.ofString "same", .int 2), (Str.ofString "not", .int 1), (Str.ofString "upper", .int 1), (Str.ofString "count", .int 1), (Str.ofString "sort", .int 1), (Str.ofString "first", .int 1), (Str.ofString "rest", .int 1), (Str.ofString "join", .int 2), (Str.ofString "swap", .int 3)]
theorem funF_eq : funF = funT.map fun x => (S x.1, V.int (x.2 : Int)) := by rfl
def arity (l : List Nat) : Option Nat := (funT.find? fun x => decide (x.1 = l)).map (·.2)
theorem fun_look (l : List Nat) : wdLook funF (S l) = (arity l).map fun n : Nat => V.int (n : Int) := by
  rw [funF_eq]
  unfold arity
  generalize funT = t
  unfold wdLook
  induction t with
  | nil => rfl
  | cons x r ih =>
    rw [List.map_cons, List.find?_cons, List.find?_cons]
    have e : decide (S x.1 = S l) = decide (x.1 = l) := by
      rw [decide_eq_decide]
      exact ⟨fun z => S_inj z, fun z => by rw [z]⟩
    dsimp only
    rw [e]
    by_cases h : x.1 = l
    · rw [decide_eq_true h]
      rfl
    · rw [decide_eq_false h]
      exact ih
abbrev Res := Option (Rs (PyData × Nat))
def errG (c : Nat) (why : List Nat) : Res := if c < 10 ^ 9 then some (.inr (c, why)) else none
def sgn (ts : List Tok3) (a : Nat) : List Nat := match ts[a]? with
  | some x => if x.1 = kSig then x.2.1 else []
  | none => []
def chkB (ts : List Tok3) (a w : Nat) : Option (Nat × List Nat) := match ts[a]? with
  | none => some (0, missT)
  | some x => if sgn ts a ≠ [44] ∧ sgn ts a ≠ [41] then some (x.2.2, unexp) else if sgn ts a = [41] ∧ 0 < w then some (x.2.2, missA) else if sgn ts a = [44] ∧ w = 0 then some (x.2.2, extraA) else none
def idOk (l : List Nat) : Bool := decide (1 ≤ l.length) && decide (l.length ≤ 12) && decide (l.getD 0 0 ∈ LET) && l.all fun c => decide (c ∈ IDS)
def textD (l : List Nat) : PyData := .tuple [.str (S (lit "text")), .str (S l)]
def nameD (l : List Nat) : PyData := .tuple [.str (S (lit "name")), .str (S l)]
def callD (w : List Nat) (ds : List PyData) : PyData := .tuple [.str (S (lit "call")), .str (S w), .tuple ds]
def joinD (ds : List PyData) : PyData := .tuple [.str (S (lit "join")), .tuple ds]
def pairE (x : PyData × Nat) : PyData := .tuple [x.1, .int (x.2 : Int)]
def termG (call : Nat → Res) (ts : List Tok3) (ks : List (List Nat)) (a : Nat) : Res := match ts[a]? with
  | none => some (.inr (0, missT))
  | some x => if x.1 = kStr then some (.inl (textD x.2.1, a + 1)) else if x.1 = kSig then errG x.2.2 unexp else if sgn ts (a + 1) = [40] then call a else
    if idOk x.2.1 = false then (if x.2.1.length ≤ 40000 then errG x.2.2 invName else none) else if x.2.1 ∉ ks then errG x.2.2 unkName else some (.inl (nameD x.2.1, a + 1))
def argsG (expr : Nat → Res) (ts : List Tok3) (w : List Nat) : Nat → List PyData → Nat → Res
  | 0, acc, b => some (.inl (callD w acc, b + 1))
  | m + 1, acc, b => if sgn ts (b + 1) = [41] then (match ts[b + 1]? with
      | some x => errG x.2.2 missA
      | none => none) else match expr (b + 1) with
    | none => none
    | some (.inr e) => some (.inr e)
    | some (.inl (d, b2)) => match chkB ts b2 m with
      | some (c, why) => errG c why
      | none => argsG expr ts w m (acc ++ [d]) b2
def callG (expr : Nat → Res) (ts : List Tok3) (dp a : Nat) : Res := match ts[a]? with
  | none => none
  | some x => if 6 ≤ dp then errG x.2.2 tooDeep else match arity x.2.1 with
    | none => errG x.2.2 unkFun
    | some n => argsG expr ts x.2.1 n [] (a + 1)
def moreG (term : Nat → Res) (ts : List Tok3) : Nat → List PyData → PyData → Nat → Res
  | 0, _, _, _ => none
  | n + 1, acc, d, b => if sgn ts b = [43] then (match term (b + 1) with
      | none => none
      | some (.inr e) => some (.inr e)
      | some (.inl (d2, b2)) => if acc.length < 1000 then moreG term ts n (acc ++ [d2]) d2 b2 else none) else some (.inl (if acc.length = 1 then d else joinD acc, b))
def termN (expr : Nat → Nat → Nat → Res) (ts : List Tok3) (ks : List (List Nat)) (n dp : Nat) : Nat → Res := termG (callG (expr n (dp + 1)) ts dp) ts ks
def exprN (ts : List Tok3) (ks : List (List Nat)) : Nat → Nat → Nat → Res
  | 0, _, _ => none
  | n + 1, dp, a => match termG (callG (exprN ts ks n (dp + 1)) ts dp) ts ks a with
    | none => none
    | some (.inr e) => some (.inr e)
    | some (.inl (d, b)) => moreG (termG (callG (exprN ts ks n (dp + 1)) ts dp) ts ks) ts (ts.length + 1) [d] d b
def NoLs (f : Nat → Res) : Prop := ∀ a d b, f a = some (.inl (d, b)) → noL d = true
theorem errG_inl {c : Nat} {why : List Nat} {x : PyData × Nat} : errG c why ≠ some (.inl x) := by
  unfold errG
  split
  · exact fun z => nomatch z
  · exact fun z => nomatch z
theorem noLA_snoc {ds : List PyData} {d : PyData} (h : noLA ds = true) (hd : noL d = true) : noLA (ds ++ [d]) = true := by
  induction ds with
  | nil =>
    show noLA [d] = true
    unfold noLA
    rw [hd]
    unfold noLA
    rfl
  | cons x r ih =>
    unfold noLA at h
    rw [Bool.and_eq_true] at h
    show noLA (x :: (r ++ [d])) = true
    unfold noLA
    rw [h.1, ih h.2]
    rfl
theorem noL_tup {ds : List PyData} (h : noLA ds = true) : noL (.tuple ds) = true := by
  unfold noL
  exact h
theorem noLA2 {a b : PyData} (h1 : noL a = true) (h2 : noL b = true) : noLA [a, b] = true := noLA_snoc (noLA_snoc (ds := []) (by unfold noLA; rfl) h1) h2
theorem noL_str (l : List Nat) : noL (.str (S l)) = true := by unfold noL; rfl
theorem noL_call {w : List Nat} {ds : List PyData} (h : noLA ds = true) : noL (callD w ds) = true := noL_tup (noLA_snoc (noLA2 (noL_str _) (noL_str _)) (noL_tup h))
theorem noL_join {ds : List PyData} (h : noLA ds = true) : noL (joinD ds) = true := noL_tup (noLA2 (noL_str _) (noL_tup h))
theorem args_noL {expr : Nat → Res} {ts : List Tok3} {w : List Nat} (he : NoLs expr) : ∀ (m : Nat) (acc : List PyData) (b : Nat), noLA acc = true → ∀ d b2, argsG expr ts w m acc b = some (.inl (d, b2)) → noL d = true
  | 0, acc, b, ha, d, b2, h => by
    unfold argsG at h
    cases h
    exact noL_call ha
  | m + 1, acc, b, ha, d, b2, h => by
    unfold argsG at h
    split at h
    · split at h
      · exact absurd h errG_inl
      · cases h
    · split at h
      · cases h
      · cases h
      · next d1 b1 hd1 =>
        split at h
        · exact absurd h errG_inl
        · exact args_noL he m _ _ (noLA_snoc ha (he _ _ _ hd1)) d b2 h
theorem call_noL {expr : Nat → Res} {ts : List Tok3} {dp : Nat} (he : NoLs expr) : NoLs (callG expr ts dp) := fun a d b h => by
  unfold callG at h
  split at h
  · cases h
  · split at h
    · exact absurd h errG_inl
    · split at h
      · exact absurd h errG_inl
      · exact args_noL he _ _ _ (by unfold noLA; rfl) d b h
theorem term_noL {call : Nat → Res} {ts : List Tok3} {ks : List (List Nat)} (hc : NoLs call) : NoLs (termG call ts ks) := fun a d b h => by
  unfold termG at h
  split at h
  · cases h
  · split at h
    · cases h
      exact noL_tup (noLA2 (noL_str _) (noL_str _))
    · split at h
      · exact absurd h errG_inl
      · split at h
        · exact hc _ _ _ h
        · split at h
          · split at h
            · exact absurd h errG_inl
            · cases h
          · split at h
            · exact absurd h errG_inl
            · cases h
              exact noL_tup (noLA2 (noL_str _) (noL_str _))
theorem more_noL {term : Nat → Res} {ts : List Tok3} (ht : NoLs term) : ∀ (n : Nat) (acc : List PyData) (d0 : PyData) (b : Nat), noLA acc = true → noL d0 = true → ∀ d b2, moreG term ts n acc d0 b = some (.inl (d, b2)) → noL d = true
  | 0, _, _, _, _, _, _, _, h => by unfold moreG at h; cases h
  | n + 1, acc, d0, b, ha, h0, d, b2, h => by
    unfold moreG at h
    split at h
    · split at h
      · cases h
      · cases h
      · next d1 b1 hd1 =>
        split at h
        · exact more_noL ht n _ _ _ (noLA_snoc ha (ht _ _ _ hd1)) (ht _ _ _ hd1) d b2 h
        · cases h
    · cases h
      split
      · exact h0
      · exact noL_join ha
theorem expr_noL {ts : List Tok3} {ks : List (List Nat)} : ∀ (n dp : Nat), NoLs (exprN ts ks n dp)
  | 0, _ => fun _ _ _ h => by unfold exprN at h; cases h
  | n + 1, dp => fun a d b h => by
    have ht := term_noL (ts := ts) (ks := ks) (call_noL (ts := ts) (dp := dp) (expr_noL (ts := ts) (ks := ks) n (dp + 1)))
    unfold exprN at h
    split at h
    · cases h
    · cases h
    · next d1 b1 hd1 => exact more_noL ht _ _ _ _ (noLA_snoc (ds := []) (by unfold noLA; rfl) (ht _ _ _ hd1)) (ht _ _ _ hd1) d b h
end
section
variable {P : Program} {w : World} {K : PySem.W.Frag} {mg : Str → Option Value} {base : Heap}
/-- the list of tokens at p -/
def TLs (H : Hp) (p : Addr) (ts : List Tok3) : Prop := ∃ vs, H p = some (.lst vs) ∧ DtA H vs (ts.map tokD) ∧ ts.length ≤ 50000
theorem TLs.mono {H H1 : Hp} {p : Addr} {ts : List Tok3} (h : TLs H p ts) (e : Ex H H1) : TLs H1 p ts := by
  obtain ⟨vs, a, b, c⟩ := h
  exact ⟨vs, e _ _ a, b.mono e, c⟩
theorem TLs.at_ {H : Hp} {p : Addr} {ts : List Tok3} (h : TLs H p ts) {a : Nat} {x : Tok3} (hx : ts[a]? = some x) : ∃ q, H q = some (.tup [.str (S x.1), .str (S x.2.1), .int (x.2.2 : Int)]) ∧ ∀ {σ : L2.St} {ta tb : TE}, Ev ta σ H (.ref p) → Ev tb σ H (.int (a : Int)) → Ev (tOp (rIxL K) ta tb) σ H (.ref q) := by
  obtain ⟨vs, h1, h2, h3⟩ := h
  obtain ⟨v, hv, hd⟩ := h2.get a (tokD x) (by rw [List.getElem?_map, hx]; rfl)
  obtain ⟨q, rfl, hq⟩ := tokD_inv hd
  exact ⟨q, hq, fun ha hb => ev_op ha hb (rv_ixL (sq_of h1) (atI_nat hv))⟩
theorem TLs.len {H : Hp} {p : Addr} {ts : List Tok3} (h : TLs H p ts) {σ : L2.St} {ta : TE} (ha : Ev ta σ H (.ref p)) : Ev (tCB (rLenS K) (tCons ta tNil)) σ H (.int (ts.length : Int)) := by
  obtain ⟨vs, h1, h2, h3⟩ := h
  have := h2.len
  rw [List.length_map] at this
  rw [← this]
  exact ev_len ha (sq_of h1)
theorem nf2 (G : Gx K mg) : Nf2 K G.c_BadToken := ⟨G.n_BadToken_column, G.n_BadToken_reason⟩
def sp_is_identifier (_ : PySem.W.Frag) : Sp := sp1 (fun l : List Nat => [.str (S l)]) (fun l _ => l.length ≤ 40000) (fun l => .bl (idOk l))
theorem ok_is_identifier {f : Addr} {fd : FuncData} (F : Fun K "is_identifier" "is_identifier" s_is_identifier f fd) (T : Tx mg) (G : Gx K mg)  : FnOk P w K mg base CX0 1 f fd ["value"] (sp_is_identifier K) := by
  refine F.ok sc_is_identifier (fun vs H Q E h => ?_) (fun cdv A outer s H vs Q E hr h => ?_)
  · obtain ⟨l, rfl, _⟩ := h
    rfl
  · obtain ⟨l, rfl, hl, q⟩ := h
    refine ⟨_, (pss_cons (ps_if (PW.pt (pw_or (pt_not (pt_chain op_le op_le pe_int (pe_callB Kn.cr_lenStr (by rfl) T.b_len PySem.boot_len (pa_cons (pv 0) pa_nil)) (C8.pe_gc (by rfl) T.c_IDENTIFIER_LENGTH))) (pw_or1 (pt_cmpR op_notInS (pe_ix ix_str (pv 0) pe_int (fun _ _ => rfl)) (C8.pe_gc (by rfl) T.c_LETTERS) rfl)))) (pss_one (ps_ret pe_bl)) pss_nil)
      (pss_one (ps_ret (pe_callB (cr_all rfl) (by rfl) T.b_all (by decide +kernel) (pa_cons (pe_lc (own := [("sign", 1)]) rfl sc_is_identifier.nd (pi_str (pv 0)) (blkOk_by (own := [("sign", 1)]) (N := N_is_identifier) (sc := defScope s_is_identifier) (by decide +kernel)) (fun _ _ _ _ _ => pg_name (i := 1) sc_is_identifier.nd rfl (Or.inl rfl)) (fun _ _ _ _ _ => pts_nil) (fun _ _ _ _ _ => (pe_cmpR op_inS (pv 1) (C8.pe_gc (by rfl) T.c_IDENTIFIER_SIGNS) rfl))) pa_nil))))), ?_⟩
    refine q_when (b := !(decide (1 ≤ l.length) && decide (l.length ≤ 12)) || !decide (l.getD 0 0 ∈ LET)) (et_or (et_not (et_is (et_test (ev_chain ev_c (ev_cb (ea_cons (ev_var rfl) ea_nil) (rc_lenS (by omega))) rv_le (ev_c (v := .int ((12 : Nat) : Int))) rv_le)) (by
      congr 1
      · rw [decide_eq_decide]; omega
      · rw [decide_eq_decide]; omega))) fun h => ?_) (fun hb H1 e1 => ?_) fun hb H1 e1 => ?_
    · rw [Bool.not_eq_false', Bool.and_eq_true, decide_eq_true_eq] at h
      cases l with
      | nil => exact absurd h.1 (by decide)
      | cons c r => exact et_test (ev_op (ev_idxS (ev_var rfl) (ev_c (v := .int ((0 : Nat) : Int))) (by omega) (atI_nat rfl)) (ev_cS (l := LET) rfl) rv_ninS)
    · have h0 : idOk l = false := by
        unfold idOk
        cases h1 : decide (1 ≤ l.length) && decide (l.length ≤ 12) with
        | false => rfl
        | true =>
          rw [h1] at hb
          cases h2 : decide (l.getD 0 0 ∈ LET) with
          | false => rfl
          | true => rw [h2] at hb; cases hb
      refine s_ret (v := .bl (idOk l)) (ev_is ev_c (by rw [h0])) fun H2 e2 => q H2 (e1.trans e2)
    · have h0 : idOk l = l.all fun c => decide (c ∈ IDS) := by
        rw [Bool.or_eq_false_iff, Bool.not_eq_false', Bool.not_eq_false'] at hb
        unfold idOk
        rw [hb.1, hb.2]
        rfl
      exact s_ret (v := .bl (idOk l)) (ev_is (ev_all (p := fun c : Nat => decide (c ∈ IDS)) (xs := l) (el_lcS (ev_var rfl) (by omega) (fun _ => rfl) fun c hc H2 e2 => ev_op (ev_var rfl) (ev_cS (l := IDS) rfl) rv_inS)) (by rw [h0])) fun H2 e2 => q H2 (e1.trans e2)
def sp__sign (_ : PySem.W.Frag) : Sp := fun vs H Q _ => ∃ (p : Addr) (ts : List Tok3) (a : Nat), vs = [.ref p, .int (a : Int)] ∧ TLs H p ts ∧ Rt H (.str (S (sgn ts a))) Q
theorem ok__sign {f : Addr} {fd : FuncData} (F : Fun K "_sign" "_sign" s__sign f fd) (T : Tx mg) (G : Gx K mg)  : FnOk P w K mg base CX0 1 f fd ["tokens", "at"] (sp__sign K) := by
  refine F.ok sc__sign (fun vs H Q E h => ?_) (fun cdv A outer s H vs Q E hr h => ?_)
  · obtain ⟨p, ts, a, rfl, _⟩ := h
    rfl
  · obtain ⟨p, ts, a, rfl, hT, q⟩ := h
    refine ⟨_, (pss_cons (ps_if (PW.pt (pw_and (pt_cmpR op_lt (pv 1) (pe_callB Kn.cr_lenSeq (by rfl) T.b_len PySem.boot_len (pa_cons (pv 0) pa_nil)) (nomark _)) (pw_and1 (pt_cmpR op_eq (pe_ix ix_tup (pe_ix ix_list (pv 0) (pv 1) (fun _ _ => rfl)) pe_int (fun _ _ => rfl)) pe_str (nomark _))))) (pss_one (ps_ret (pe_ix ix_tup (pe_ix ix_list (pv 0) (pv 1) (fun _ _ => rfl)) pe_int (fun _ _ => rfl)))) pss_nil)
      (pss_one (ps_ret pe_str))), ?_⟩
    cases hx : ts[a]? with
    | none =>
      have hge : ts.length ≤ a := List.getElem?_eq_none_iff.mp hx
      have hs : sgn ts a = [] := by unfold sgn; rw [hx]
      rw [hs] at q
      refine q_when (b := false && true) (et_and (b := true) (et_is (et_test (ev_op (ev_var rfl) (hT.len (ev_var rfl)) rv_lt)) (decide_eq_false (by omega))) fun h => nomatch h) (fun h => nomatch h) fun _ H1 e1 => ?_
      exact s_ret (ev_cS rfl) fun H2 e2 => q H2 (e1.trans e2)
    | some x =>
      have hlt : a < ts.length := (List.getElem?_eq_some_iff.mp hx).1
      obtain ⟨z, hz, ez⟩ := hT.at_ (K := K) hx
      refine q_when (b := true && decide (x.1 = kSig)) (et_and (et_is (et_test (ev_op (ev_var rfl) (hT.len (ev_var rfl)) rv_lt)) (decide_eq_true (by omega))) fun h => et_test (ev_op (ev_op (ez (ev_var rfl) (ev_var rfl)) ev_c (rv_ix0 (i := 0) (v := .str (S x.1)) (st_of hz) rfl)) (ev_cS (l := kSig) rfl) rv_eqS)) (fun h H1 e1 => ?_) fun h H1 e1 => ?_
      · have hs : sgn ts a = x.2.1 := by
          unfold sgn
          rw [hx]
          dsimp only
          rw [Bool.true_and] at h
          rw [if_pos (of_decide_eq_true h)]
        rw [hs] at q
        exact s_ret ((ev_op (ez (ev_var rfl) (ev_var rfl)) ev_c (rv_ix0 (i := 1) (v := .str (S x.2.1)) (st_of hz) rfl)).mono e1) fun H2 e2 => q H2 (e1.trans e2)
      · have hs : sgn ts a = [] := by
          unfold sgn
          rw [hx]
          dsimp only
          rw [Bool.true_and] at h
          rw [if_neg (of_decide_eq_false h)]
        rw [hs] at q
        exact s_ret (ev_cS rfl) fun H2 e2 => q H2 (e1.trans e2)
theorem ev_sign {H : Hp} {σ : L2.St} {E : XK} {p : Addr} {ts : List Tok3} {a : Nat} {tA : TA} (hA : EvA tA σ H [.ref p, .int (a : Int)]) (hT : TLs H p ts) : Ev (tCall (sp__sign K) [] E tA) σ H (.str (S (sgn ts a))) := fun H1 e Q q => hA H1 e _ fun H2 e2 => by
  rw [List.append_nil]
  exact ⟨p, ts, a, rfl, hT.mono (e.trans e2), fun H3 e3 => q H3 (e2.trans e3)⟩
def sp__check_there (G : Gx K mg) : Sp := fun vs H Q E => ∃ (p : Addr) (ts : List Tok3) (a : Nat), vs = [.ref p, .int (a : Int)] ∧ TLs H p ts ∧ (a < ts.length → Rt H .non Q) ∧ (ts.length ≤ a → Rz2 H E G.c_BadToken 0 missT)
theorem ok__check_there {f : Addr} {fd : FuncData} (F : Fun K "_check_there" "_check_there" s__check_there f fd) (T : Tx mg) (G : Gx K mg) (Z_BadToken : Kn.Xk P w K mg base 1 "BadToken" G.c_BadToken (sp_I2 K)) : FnOk P w K mg base (L2.CX P w) 3 f fd ["tokens", "at"] (sp__check_there G) := by
  refine F.okX sc__check_there (fun vs H Q E h => ?_) (fun cdv A outer s H vs Q E hr h => ?_)
  · obtain ⟨p, ts, a, rfl, _⟩ := h
    rfl
  · obtain ⟨p, ts, a, rfl, hT, q, qe⟩ := h
    refine ⟨_, (pss_one (ps_if (pt_cmpR op_ge (pv 1) (pe_callB Kn.cr_lenSeq (by rfl) T.b_len PySem.boot_len (pa_cons (pv 0) pa_nil)) (nomark _)) (pss_one (Kn.ps_xk Z_BadToken hr (by decide) rfl (takes_of rfl rfl rfl rfl) (by rfl) (pa_cons pe_int (pa_cons pe_str pa_nil)))) pss_nil)), ?_⟩
    refine s_when (b := decide (ts.length ≤ a)) (et_is (et_test (ev_op (ev_var rfl) (hT.len (ev_var rfl)) rv_ge)) (by rw [decide_eq_decide]; omega)) (fun h H1 e1 => ?_) fun h H1 e1 => ?_
    · exact raise2 (W := fun cls d _ H => E cls d H) (c := 0) G.x_BadToken.oe (nf2 G) ⟨by decide +kernel, by decide⟩ ev_c (ev_cS (l := missT) rfl) fun d2 H' e hd2 => qe (of_decide_eq_true h) d2 H' (e1.trans e) hd2
    · have := of_decide_eq_false h
      exact q (by omega) H1 e1
def sp__check_behind (G : Gx K mg) : Sp := fun vs H Q E => ∃ (p : Addr) (ts : List Tok3) (a w : Nat), vs = [.ref p, .int (a : Int), .int (w : Int)] ∧ TLs H p ts ∧ (chkB ts a w = none → Rt H .non Q) ∧ (∀ c why, chkB ts a w = some (c, why) → c < 10 ^ 9 ∧ Rz2 H E G.c_BadToken c why)
theorem ok__check_behind {f : Addr} {fd : FuncData} (F : Fun K "_check_behind" "_check_behind" s__check_behind f fd) (T : Tx mg) (G : Gx K mg) (C__check_there : Kn.ClX P w K mg base 3 "_check_there" (sp__check_there G)) (C__sign : Kn.Cl P w K mg base 1 "_sign" (sp__sign K)) (Z_BadToken : Kn.Xk P w K mg base 1 "BadToken" G.c_BadToken (sp_I2 K)) : FnOk P w K mg base (L2.CX P w) 4 f fd ["tokens", "at", "wanted"] (sp__check_behind G) := by
  refine F.okX sc__check_behind (fun vs H Q E h => ?_) (fun cdv A outer s H vs Q E hr h => ?_)
  · obtain ⟨p, ts, a, w, rfl, _⟩ := h
    rfl
  · obtain ⟨p, ts, a, w, rfl, hT, q, qe⟩ := h
    refine ⟨_, (pss_cons (ps_expr (Kn.pe_clX C__check_there hr (by decide) (by rfl) (takes_of rfl rfl rfl rfl) (pa_cons (pv 0) (pa_cons (pv 1) pa_nil))))
      (pss_cons (ps_set (i := 3) sc__check_behind.nd rfl (Or.inl rfl) (Kn.pe_cl C__sign hr (by decide) (by rfl) (pa_cons (pv 0) (pa_cons (pv 1) pa_nil))))
      (pss_cons (ps_set (i := 4) sc__check_behind.nd rfl (Or.inl rfl) (pe_ix ix_tup (pe_ix ix_list (pv 0) (pv 1) (fun _ _ => rfl)) pe_int (fun _ _ => rfl)))
      (pss_cons (ps_if (PW.pt (pw_and (pt_cmpR op_ne (pv 3) pe_str (nomark _)) (pw_and1 (pt_cmpR op_ne (pv 3) pe_str (nomark _))))) (pss_one (Kn.ps_xk Z_BadToken hr (by decide) rfl (takes_of rfl rfl rfl rfl) (by rfl) (pa_cons (pv 4) (pa_cons pe_str pa_nil)))) pss_nil)
      (pss_cons (ps_if (PW.pt (pw_and (pt_cmpR op_eq (pv 3) pe_str (nomark _)) (pw_and1 (pt_cmpR op_gt (pv 2) pe_int (nomark _))))) (pss_one (Kn.ps_xk Z_BadToken hr (by decide) rfl (takes_of rfl rfl rfl rfl) (by rfl) (pa_cons (pv 4) (pa_cons pe_str pa_nil)))) pss_nil)
      (pss_one (ps_if (PW.pt (pw_and (pt_cmpR op_eq (pv 3) pe_str (nomark _)) (pw_and1 (pt_cmpR op_eq (pv 2) pe_int (nomark _))))) (pss_one (Kn.ps_xk Z_BadToken hr (by decide) rfl (takes_of rfl rfl rfl rfl) (by rfl) (pa_cons (pv 4) (pa_cons pe_str pa_nil)))) pss_nil))))))), ?_⟩
    refine q_dropS (ea_cons (ev_var rfl) (ea_cons (ev_var rfl) ea_nil)) fun H1 e1 => ?_
    refine ⟨p, ts, a, rfl, hT.mono e1, fun hlt H2 e2 => ?_, fun hge d H' e hd => (qe 0 missT (by unfold chkB; rw [List.getElem?_eq_none_iff.mpr hge])).2 d H' (e1.trans e) hd⟩
    have e12 := e1.trans e2
    have eg := List.getElem?_eq_getElem hlt
    generalize ts[a] = x at eg
    have hchk : chkB ts a w = if sgn ts a ≠ [44] ∧ sgn ts a ≠ [41] then some (x.2.2, unexp) else if sgn ts a = [41] ∧ 0 < w then some (x.2.2, missA) else if sgn ts a = [44] ∧ w = 0 then some (x.2.2, extraA) else none := by
      unfold chkB
      rw [eg]
    rw [hchk] at q qe
    have hT2 := hT.mono e12
    refine q_asg (ev_sign (ea_cons (ev_var rfl) (ea_cons (ev_var rfl) ea_nil)) hT2) fun H3 e3 => ?_
    obtain ⟨z, hz, ez⟩ := (hT2.mono e3).at_ (K := K) eg
    refine q_asg (v := .int (x.2.2 : Int)) (ev_op (ez (ev_var rfl) (ev_var rfl)) ev_c (rv_ix0 (i := 2) (st_of hz) rfl)) fun H4 e4 => ?_
    generalize sgn ts a = sg at q qe
    have e14 := (e12.trans e3).trans e4
    refine q_when (b := !decide (sg = [44]) && !decide (sg = [41])) (et_and (et_test (ev_op (ev_var rfl) (ev_cS (l := [44]) rfl) rv_neS)) fun _ => et_test (ev_op (ev_var rfl) (ev_cS (l := [41]) rfl) rv_neS)) (fun h H5 e5 => ?_) fun h H5 e5 => ?_
    · have h1 : sg ≠ [44] ∧ sg ≠ [41] := by simpa using h
      rw [if_pos h1] at qe
      have := qe _ _ rfl
      exact raise2 (W := fun cls d _ H => E cls d H) (c := x.2.2) G.x_BadToken.oe (nf2 G) ⟨by decide +kernel, this.1⟩ (ev_var rfl) (ev_cS (l := unexp) rfl) fun d2 H' e hd2 => this.2 d2 H' ((e14.trans e5).trans e) hd2
    have h1 : ¬ (sg ≠ [44] ∧ sg ≠ [41]) := fun z => by
      have : (!decide (sg = [44]) && !decide (sg = [41])) = true := by simpa using z
      rw [h] at this
      cases this
    rw [if_neg h1] at q qe
    refine q_when (b := decide (sg = [41]) && decide (0 < w)) (et_and (et_test (ev_op (ev_var rfl) (ev_cS (l := [41]) rfl) rv_eqS)) fun _ => et_is (et_test (ev_op (ev_var rfl) ev_c rv_gt)) (by rw [decide_eq_decide]; omega)) (fun h H6 e6 => ?_) fun h H6 e6 => ?_
    · have h2 : sg = [41] ∧ 0 < w := by simpa using h
      rw [if_pos h2] at qe
      have := qe _ _ rfl
      exact raise2 (W := fun cls d _ H => E cls d H) (c := x.2.2) G.x_BadToken.oe (nf2 G) ⟨by decide +kernel, this.1⟩ (ev_var rfl) (ev_cS (l := missA) rfl) fun d2 H' e hd2 => this.2 d2 H' (((e14.trans e5).trans e6).trans e) hd2
    have h2 : ¬ (sg = [41] ∧ 0 < w) := fun z => by
      have : (decide (sg = [41]) && decide (0 < w)) = true := by simpa using z
      rw [h] at this
      cases this
    rw [if_neg h2] at q qe
    refine s_when (b := decide (sg = [44]) && decide (w = 0)) (et_and (et_test (ev_op (ev_var rfl) (ev_cS (l := [44]) rfl) rv_eqS)) fun _ => et_eqN (m := 0) (ev_var rfl) rfl) (fun h H7 e7 => ?_) fun h H7 e7 => ?_
    · have h3 : sg = [44] ∧ w = 0 := by simpa using h
      rw [if_pos h3] at qe
      have := qe _ _ rfl
      exact raise2 (W := fun cls d _ H => E cls d H) (c := x.2.2) G.x_BadToken.oe (nf2 G) ⟨by decide +kernel, this.1⟩ (ev_var rfl) (ev_cS (l := extraA) rfl) fun d2 H' e hd2 => this.2 d2 H' ((((e14.trans e5).trans e6).trans e7).trans e) hd2
    have h3 : ¬ (sg = [44] ∧ w = 0) := fun z => by
      have : (decide (sg = [44]) && decide (w = 0)) = true := by simpa using z
      rw [h] at this
      cases this
    rw [if_neg h3] at q
    exact q rfl _ (((e14.trans e5).trans e6).trans e7)
end

section
variable {P : Program} {w : World} {K : PySem.W.Frag} {mg : Str → Option Value} {base : Heap}
theorem q_asgG {σ : L2.St} {H : Hp} {te : TE} {v : V} {g : TG} {D : Ends} {tz : TS} (h : Ev te σ H v) (k : ∀ H1, Ex H H1 → g v σ H1 (tz D)) : tSeq (tAsg te g) tz D σ H := h H (Ex.refl H) _ k
theorem eqV_S (a b : List Nat) : eqV (.str (S a)) (.str (S b)) = decide (a = b) := by
  show (S a == S b) = _
  by_cases h : a = b
  · subst h
    rw [decide_eq_true rfl]
    exact beq_self_eq_true _
  · rw [decide_eq_false h]
    exact beq_eq_false_iff_ne.mpr fun z => h (S_inj z)
theorem inV_S (t : List Nat) : ∀ ks : List (List Nat), inV (.str (S t)) (ks.map fun l => V.str (S l)) = decide (t ∈ ks)
  | [] => by simp [inV]
  | k :: r => by
    have ih := inV_S t r
    unfold inV at ih ⊢
    rw [List.map_cons, List.any_cons, ih, eqV_S]
    by_cases h : k = t
    · subst h
      simp
    · have h2 : t ≠ k := fun z => h z.symm
      simp [h, h2]
theorem flat_S : ∀ ks : List (List Nat), (ks.map fun l => V.str (S l)).all flatV = true
  | [] => rfl
  | k :: r => by
    rw [List.map_cons, List.all_cons, flat_S r]
    rfl
def KnL (H : Hp) (pk : Addr) (ks : List (List Nat)) : Prop := H pk = some (.lst (ks.map fun l => V.str (S l))) ∧ ks.length ≤ 100
theorem KnL.mono {H H1 : Hp} {pk : Addr} {ks : List (List Nat)} (h : KnL H pk ks) (e : Ex H H1) : KnL H1 pk ks := ⟨e _ _ h.1, h.2⟩
def RdE (H : Hp) (Q : VK) (E : XK) (C : Addr) (r : Rs (PyData × Nat)) : Prop := (∀ d b, r = .inl (d, b) → RtD H (pairE (d, b)) Q) ∧ ∀ c why, r = .inr (c, why) → Rz2 H E C c why
theorem pairE_inv {H : Hp} {v : V} {d : PyData} {b : Nat} (h : Dt H v (pairE (d, b))) : ∃ q v1, v = .ref q ∧ H q = some (.tup [v1, .int (b : Int)]) ∧ Dt H v1 d := by
  obtain ⟨a, xs, rfl, ha, hx⟩ := h.tup_inv
  cases hx with
  | cons h1 hx =>
    cases hx with
    | cons h2 hx =>
      cases hx
      rw [h2.int_inv] at ha
      exact ⟨a, _, rfl, ha, h1⟩
theorem errG_some {c : Nat} {why : List Nat} {r : Rs (PyData × Nat)} (h : errG c why = some r) : c < 10 ^ 9 ∧ r = .inr (c, why) := by
  unfold errG at h
  split at h
  · next hc => exact ⟨hc, (Option.some.inj h).symm⟩
  · cases h
def sp__expression (G : Gx K mg) (n : Nat) : Sp := fun vs H Q E => ∃ (p pk : Addr) (ts : List Tok3) (ks : List (List Nat)) (a dp : Nat) (r : Rs (PyData × Nat)), vs = [.ref p, .int (a : Int), .ref pk, .int (dp : Int)] ∧ TLs H p ts ∧ KnL H pk ks ∧ exprN ts ks n dp a = some r ∧ RdE H Q E G.c_BadToken r
def sp__term (G : Gx K mg) (n : Nat) : Sp := fun vs H Q E => ∃ (p pk : Addr) (ts : List Tok3) (ks : List (List Nat)) (a dp : Nat) (r : Rs (PyData × Nat)), vs = [.ref p, .int (a : Int), .ref pk, .int (dp : Int)] ∧ TLs H p ts ∧ KnL H pk ks ∧ termG (callG (exprN ts ks n (dp + 1)) ts dp) ts ks a = some r ∧ RdE H Q E G.c_BadToken r
def sp__call (G : Gx K mg) (n : Nat) : Sp := fun vs H Q E => ∃ (p pk : Addr) (ts : List Tok3) (ks : List (List Nat)) (a dp : Nat) (x : Tok3) (r : Rs (PyData × Nat)), vs = [.ref p, .int (a : Int), .ref pk, .int (dp : Int)] ∧ TLs H p ts ∧ KnL H pk ks ∧ ts[a]? = some x ∧ callG (exprN ts ks n (dp + 1)) ts dp a = some r ∧ RdE H Q E G.c_BadToken r
theorem ok__expression0 {G : Gx K mg} {f : Addr} {fd : FuncData} {lv : Nat} (F : Fun K "_expression" "_expression" s__expression f fd) : FnOk P w K mg base (L2.CX P w) (lv + 5) f fd ["tokens", "start", "known", "depth"] (sp__expression G 0) := by
  refine F.okX sc__expression (fun vs H Q E h => ?_) (fun cdv A outer s H vs Q E hr h => ?_)
  · obtain ⟨p, pk, ts, ks, a, dp, r, rfl, _⟩ := h
    rfl
  · obtain ⟨p, pk, ts, ks, a, dp, r, rfl, _, _, h, _⟩ := h
    unfold exprN at h
    cases h
theorem ok__term {f : Addr} {fd : FuncData} {lv n : Nat} (F : Fun K "_term" "_term" s__term f fd) (T : Tx mg) (G : Gx K mg) (C__check_there : Kn.ClX P w K mg base 3 "_check_there" (sp__check_there G)) (C__sign : Kn.Cl P w K mg base 1 "_sign" (sp__sign K)) (C_is_identifier : Kn.Cl P w K mg base 1 "is_identifier" (sp_is_identifier K)) (C__call : Kn.ClX P w K mg base (lv + 6) "_call" (sp__call G n)) (Z_BadToken : Kn.Xk P w K mg base 1 "BadToken" G.c_BadToken (sp_I2 K)) : FnOk P w K mg base (L2.CX P w) (lv + 7) f fd ["tokens", "at", "known", "depth"] (sp__term G n) := by
  refine F.okX sc__term (fun vs H Q E h => ?_) (fun cdv A outer s H vs Q E hr h => ?_)
  · obtain ⟨p, pk, ts, ks, a, dp, r, rfl, _⟩ := h
    rfl
  · obtain ⟨p, pk, ts, ks, a, dp, r, rfl, hT, hK, hm, q, qe⟩ := h
    refine ⟨_, (pss_cons (ps_expr (Kn.pe_clX C__check_there hr (by omega) (by rfl) (takes_of rfl rfl rfl rfl) (pa_cons (pv 0) (pa_cons (pv 1) pa_nil))))
      (pss_cons (ps_asg (pe_ix ix_list (pv 0) (pv 1) (fun _ _ => rfl)) (pg_tup rfl (pgs_cons (pg_name (i := 4) sc__term.nd rfl (Or.inl rfl)) (pgs_cons (pg_name (i := 5) sc__term.nd rfl (Or.inl rfl)) (pgs_cons (pg_name (i := 6) sc__term.nd rfl (Or.inl rfl)) pgs_nil)))))
      (pss_cons (ps_if (pt_cmpR op_eq (pv 4) pe_str (nomark _)) (pss_one (ps_ret (pe_tup (pa_cons (pe_tup (pa_cons pe_str (pa_cons (pv 5) pa_nil))) (pa_cons (pe_op op_add (pv 1) pe_int) pa_nil))))) pss_nil)
      (pss_cons (ps_if (pt_cmpR op_eq (pv 4) pe_str (nomark _)) (pss_one (Kn.ps_xk Z_BadToken hr (by omega) rfl (takes_of rfl rfl rfl rfl) (by rfl) (pa_cons (pv 6) (pa_cons pe_str pa_nil)))) pss_nil)
      (pss_cons (ps_if (pt_cmpR op_eq (Kn.pe_cl C__sign hr (by omega) (by rfl) (pa_cons (pv 0) (pa_cons (pe_op op_add (pv 1) pe_int) pa_nil))) pe_str (nomark _)) (pss_one (ps_ret (Kn.pe_clX C__call hr (by omega) (by rfl) (takes_of rfl rfl rfl rfl) (pa_cons (pv 0) (pa_cons (pv 1) (pa_cons (pv 2) (pa_cons (pv 3) pa_nil))))))) pss_nil)
      (pss_cons (ps_if (pt_not (pt_val (Kn.pe_cl C_is_identifier hr (by omega) (by rfl) (pa_cons (pv 5) pa_nil)))) (pss_one (Kn.ps_xk Z_BadToken hr (by omega) rfl (takes_of rfl rfl rfl rfl) (by rfl) (pa_cons (pv 6) (pa_cons pe_str pa_nil)))) pss_nil)
      (pss_cons (ps_if (pt_cmpR op_notIn_seq (pv 5) (pv 2) rfl) (pss_one (Kn.ps_xk Z_BadToken hr (by omega) rfl (takes_of rfl rfl rfl rfl) (by rfl) (pa_cons (pv 6) (pa_cons pe_str pa_nil)))) pss_nil)
      (pss_one (ps_ret (pe_tup (pa_cons (pe_tup (pa_cons pe_str (pa_cons (pv 5) pa_nil))) (pa_cons (pe_op op_add (pv 1) pe_int) pa_nil)))))))))))), ?_⟩
    refine q_dropS (ea_cons (ev_var rfl) (ea_cons (ev_var rfl) ea_nil)) fun H1 e1 => ?_
    refine ⟨p, ts, a, rfl, hT.mono e1, fun hlt H2 e2 => ?_, fun hge d H' e hd => ?_⟩
    rotate_left
    · unfold termG at hm
      rw [List.getElem?_eq_none_iff.mpr hge] at hm
      exact qe 0 missT (Option.some.inj hm).symm d H' (e1.trans e) hd
    have eg := List.getElem?_eq_getElem hlt
    generalize ts[a] = x at eg
    unfold termG at hm
    rw [eg] at hm
    dsimp only at hm
    have e12 := e1.trans e2
    obtain ⟨z, hz, ez⟩ := (hT.mono e12).at_ (K := K) eg
    refine q_asgG (ez (ev_var rfl) (ev_var rfl)) fun H3 e3 => ?_
    refine unp3 (e3 _ _ hz) ?_
    have e13 := e12.trans e3
    refine q_when (b := decide (x.1 = kStr)) (et_test (ev_op (ev_var rfl) (ev_cS (l := kStr) rfl) rv_eqS)) (fun h H4 e4 => ?_) fun h H4 e4 => ?_
    · rw [if_pos (of_decide_eq_true h)] at hm
      exact s_retD (evd_tup (eda_cons (evd_tup (eda_cons (evd_cS (l := lit "text") rfl) (eda_cons (evd_str (ev_var rfl)) eda_nil)) (by show 2 ≤ 100000; decide)) (eda_cons (evd_int (ev_addN (m := 1) (ev_var rfl) rfl)) eda_nil)) (by show 2 ≤ 100000; decide)) ((q _ _ (Option.some.inj hm).symm).mono (e13.trans e4))
    rw [if_neg (of_decide_eq_false h)] at hm
    refine q_when (b := decide (x.1 = kSig)) (et_test (ev_op (ev_var rfl) (ev_cS (l := kSig) rfl) rv_eqS)) (fun h H5 e5 => ?_) fun h H5 e5 => ?_
    · rw [if_pos (of_decide_eq_true h)] at hm
      obtain ⟨hc, hr1⟩ := errG_some hm
      exact raise2 (W := fun cls d _ H => E cls d H) (c := x.2.2) G.x_BadToken.oe (nf2 G) ⟨by decide +kernel, hc⟩ (ev_var rfl) (ev_cS (l := unexp) rfl) fun d2 H' e hd2 => qe _ _ hr1 d2 H' (((e13.trans e4).trans e5).trans e) hd2
    rw [if_neg (of_decide_eq_false h)] at hm
    have e15 := (e13.trans e4).trans e5
    refine q_when (b := decide (sgn ts (a + 1) = [40])) (et_test (ev_op (ev_sign (ea_cons (ev_var rfl) (ea_cons (ev_addN (m := 1) (ev_var rfl) rfl) ea_nil)) (hT.mono e15)) (ev_cS (l := [40]) rfl) rv_eqS)) (fun h H6 e6 => ?_) fun h H6 e6 => ?_
    · rw [if_pos (of_decide_eq_true h)] at hm
      refine s_retS (ea_cons (ev_var rfl) (ea_cons (ev_var rfl) (ea_cons (ev_var rfl) (ea_cons (ev_var rfl) ea_nil)))) fun H7 e7 => ?_
      have e17 := (e15.trans e6).trans e7
      exact ⟨p, pk, ts, ks, a, dp, x, r, rfl, hT.mono e17, hK.mono e17, eg, hm, fun d b hr1 => (q d b hr1).mono e17, fun c why hr1 => (qe c why hr1).mono e17⟩
    rw [if_neg (of_decide_eq_false h)] at hm
    have e16 := e15.trans e6
    have hlen : x.2.1.length ≤ 40000 := by
      split at hm
      · split at hm
        · next hz => exact hz
        · cases hm
      · next hi =>
        unfold idOk at hi
        have h1 : decide (x.2.1.length ≤ 12) = true := by
          cases h2 : decide (x.2.1.length ≤ 12) with
          | true => rfl
          | false =>
            rw [h2] at hi
            simp at hi
        have := of_decide_eq_true h1
        omega
    refine q_when (b := !idOk x.2.1) (et_not (et_B (ev_c1 (a := x.2.1) (ea_cons (ev_var rfl) ea_nil) fun _ _ => hlen))) (fun h H7 e7 => ?_) fun h H7 e7 => ?_
    · rw [Bool.not_eq_true'] at h
      rw [if_pos h, if_pos hlen] at hm
      obtain ⟨hc, hr1⟩ := errG_some hm
      exact raise2 (W := fun cls d _ H => E cls d H) (c := x.2.2) G.x_BadToken.oe (nf2 G) ⟨by decide +kernel, hc⟩ (ev_var rfl) (ev_cS (l := invName) rfl) fun d2 H' e hd2 => qe _ _ hr1 d2 H' ((e16.trans e7).trans e) hd2
    rw [Bool.not_eq_false'] at h
    rw [if_neg (by rw [h]; decide)] at hm
    have hK7 := hK.mono (e16.trans e7)
    refine q_when (b := !decide (x.2.1 ∈ ks)) (et_is (et_test (ev_op (ev_var rfl) (ev_var rfl) (rv_niL (sq_of hK7.1) rfl (flat_S ks)))) (by rw [inV_S])) (fun h H8 e8 => ?_) fun h H8 e8 => ?_
    · rw [Bool.not_eq_true'] at h
      rw [if_pos (of_decide_eq_false h)] at hm
      obtain ⟨hc, hr1⟩ := errG_some hm
      exact raise2 (W := fun cls d _ H => E cls d H) (c := x.2.2) G.x_BadToken.oe (nf2 G) ⟨by decide +kernel, hc⟩ (ev_var rfl) (ev_cS (l := unkName) rfl) fun d2 H' e hd2 => qe _ _ hr1 d2 H' (((e16.trans e7).trans e8).trans e) hd2
    rw [Bool.not_eq_false'] at h
    rw [if_neg (fun z => z (of_decide_eq_true h))] at hm
    exact s_retD (evd_tup (eda_cons (evd_tup (eda_cons (evd_cS (l := lit "name") rfl) (eda_cons (evd_str (ev_var rfl)) eda_nil)) (by show 2 ≤ 100000; decide)) (eda_cons (evd_int (ev_addN (m := 1) (ev_var rfl) rfl)) eda_nil)) (by show 2 ≤ 100000; decide)) ((q _ _ (Option.some.inj hm).symm).mono ((e16.trans e7).trans e8))
theorem ok__call {f : Addr} {fd : FuncData} {lv n : Nat} (F : Fun K "_call" "_call" s__call f fd) (T : Tx mg) (G : Gx K mg) (C__sign : Kn.Cl P w K mg base 1 "_sign" (sp__sign K)) (C__check_behind : Kn.ClX P w K mg base 4 "_check_behind" (sp__check_behind G)) (C__expression : Kn.ClX P w K mg base (lv + 5) "_expression" (sp__expression G n)) (Z_BadToken : Kn.Xk P w K mg base 1 "BadToken" G.c_BadToken (sp_I2 K)) {D_FUNCTIONS : Addr} (W_FUNCTIONS : Kn.WD K w mg "FUNCTIONS" D_FUNCTIONS funF) : FnOk P w K mg base (L2.CX P w) (lv + 6) f fd ["tokens", "at", "known", "depth"] (sp__call G n) := by
  refine F.okX sc__call (fun vs H Q E h => ?_) (fun cdv A outer s H vs Q E hr h => ?_)
  · obtain ⟨p, pk, ts, ks, a, dp, x, r, rfl, _⟩ := h
    rfl
  · obtain ⟨p, pk, ts, ks, a, dp, x, r, rfl, hT, hK, eg, hm, q, qe⟩ := h
    refine ⟨_, (pss_cons (ps_asg (pe_ix ix_list (pv 0) (pv 1) (fun _ _ => rfl)) (pg_tup rfl (pgs_cons (pg_name (i := 4) sc__call.nd rfl (Or.inl rfl)) (pgs_cons (pg_name (i := 5) sc__call.nd rfl (Or.inl rfl)) (pgs_cons (pg_name (i := 6) sc__call.nd rfl (Or.inl rfl)) pgs_nil)))))
      (pss_cons (ps_if (pt_cmpR op_ge (pv 3) (C8.pe_gc (by rfl) T.c_MOST_CALLS) (nomark _)) (pss_one (Kn.ps_xk Z_BadToken hr (by omega) rfl (takes_of rfl rfl rfl rfl) (by rfl) (pa_cons (pv 6) (pa_cons pe_str pa_nil)))) pss_nil)
      (pss_cons (ps_if (pt_cmpR (Kn.op_notIn_wd W_FUNCTIONS) (pv 5) (Kn.pe_wd W_FUNCTIONS (by rfl)) rfl) (pss_one (Kn.ps_xk Z_BadToken hr (by omega) rfl (takes_of rfl rfl rfl rfl) (by rfl) (pa_cons (pv 6) (pa_cons pe_str pa_nil)))) pss_nil)
      (pss_cons (ps_set (i := 7) sc__call.nd rfl (Or.inl rfl) (pe_lst pa_nil))
      (pss_cons (ps_set (i := 8) sc__call.nd rfl (Or.inl rfl) (pe_op op_add (pv 1) pe_int))
      (pss_cons (ps_while (passes_of rfl) (pt_cmpR op_lt (pe_callB Kn.cr_lenSeq (by rfl) T.b_len PySem.boot_len (pa_cons (pv 7) pa_nil)) (pe_ix (Kn.ix_wd W_FUNCTIONS) (Kn.pe_wd W_FUNCTIONS (by rfl)) (pv 5) (fun _ _ => rfl)) (nomark _)) (pss_cons (ps_if (pt_cmpR op_eq (Kn.pe_cl C__sign hr (by omega) (by rfl) (pa_cons (pv 0) (pa_cons (pe_op op_add (pv 8) pe_int) pa_nil))) pe_str (nomark _)) (pss_one (Kn.ps_xk Z_BadToken hr (by omega) rfl (takes_of rfl rfl rfl rfl) (by rfl) (pa_cons (pe_ix ix_tup (pe_ix ix_list (pv 0) (pe_op op_add (pv 8) pe_int) (fun _ _ => rfl)) pe_int (fun _ _ => rfl)) (pa_cons pe_str pa_nil)))) pss_nil)
      (pss_cons (ps_asg (Kn.pe_clX C__expression hr (by omega) (by rfl) (takes_of rfl rfl rfl rfl) (pa_cons (pv 0) (pa_cons (pe_op op_add (pv 8) pe_int) (pa_cons (pv 2) (pa_cons (pe_op op_add (pv 3) pe_int) pa_nil))))) (pg_tup rfl (pgs_cons (pg_name (i := 9) sc__call.nd rfl (Or.inl rfl)) (pgs_cons (pg_name (i := 8) sc__call.nd rfl (Or.inl rfl)) pgs_nil))))
      (pss_cons (ps_expr (pe_bm PySem.F.plainAttrs_list PySem.F.slot_list_append PySem.F.type_list_append mt_append (pv 7) (pa_cons (pv 9) pa_nil)))
      (pss_one (ps_expr (Kn.pe_clX C__check_behind hr (by omega) (by rfl) (takes_of rfl rfl rfl rfl) (pa_cons (pv 0) (pa_cons (pv 8) (pa_cons (pe_op op_sub (pe_ix (Kn.ix_wd W_FUNCTIONS) (Kn.pe_wd W_FUNCTIONS (by rfl)) (pv 5) (fun _ _ => rfl)) (pe_callB Kn.cr_lenSeq (by rfl) T.b_len PySem.boot_len (pa_cons (pv 7) pa_nil))) pa_nil))))))))))
      (pss_one (ps_ret (pe_tup (pa_cons (pe_tup (pa_cons pe_str (pa_cons (pv 5) (pa_cons (pe_callTy call_tuple_of (by rfl) T.b_tuple (by decide +kernel) (pa_cons (pv 7) pa_nil)) pa_nil)))) (pa_cons (pe_op op_add (pv 8) pe_int) pa_nil))))))))))), ?_⟩
    unfold callG at hm
    rw [eg] at hm
    dsimp only at hm
    obtain ⟨z, hz, ez⟩ := hT.at_ (K := K) eg
    refine q_asgG (ez (ev_var rfl) (ev_var rfl)) fun H1 e1 => ?_
    refine unp3 (e1 _ _ hz) ?_
    refine q_when (b := decide (6 ≤ dp)) (et_is (et_test (ev_op (ev_var rfl) (ev_c (v := .int ((6 : Nat) : Int))) rv_ge)) (by rw [decide_eq_decide]; omega)) (fun h H2 e2 => ?_) fun h H2 e2 => ?_
    · rw [if_pos (of_decide_eq_true h)] at hm
      obtain ⟨hc, hr1⟩ := errG_some hm
      exact raise2 (W := fun cls d _ H => E cls d H) (c := x.2.2) G.x_BadToken.oe (nf2 G) ⟨by decide +kernel, hc⟩ (ev_var rfl) (ev_cS (l := tooDeep) rfl) fun d2 H' e hd2 => qe _ _ hr1 d2 H' ((e1.trans e2).trans e) hd2
    rw [if_neg (of_decide_eq_false h)] at hm
    refine q_when (b := !(arity x.2.1).isSome) (et_is (et_test (ev_op (ev_var rfl) ev_c rv_wnin)) (by rw [fun_look, Option.isSome_map])) (fun h H3 e3 => ?_) fun h H3 e3 => ?_
    · have ha : arity x.2.1 = none := by
        cases ha : arity x.2.1 with
        | none => rfl
        | some n => rw [ha] at h; cases h
      rw [ha] at hm
      dsimp only at hm
      obtain ⟨hc, hr1⟩ := errG_some hm
      exact raise2 (W := fun cls d _ H => E cls d H) (c := x.2.2) G.x_BadToken.oe (nf2 G) ⟨by decide +kernel, hc⟩ (ev_var rfl) (ev_cS (l := unkFun) rfl) fun d2 H' e hd2 => qe _ _ hr1 d2 H' (((e1.trans e2).trans e3).trans e) hd2
    have ha : ∃ n, arity x.2.1 = some n := by
      cases ha : arity x.2.1 with
      | none => rw [ha] at h; cases h
      | some n => exact ⟨n, rfl⟩
    obtain ⟨N, ha⟩ := ha
    rw [ha] at hm
    dsimp only at hm
    have hN : N ≤ 3 := by
      unfold arity at ha
      cases hf : funT.find? fun y => decide (y.1 = x.2.1) with
      | none => rw [hf] at ha; cases ha
      | some y =>
        rw [hf] at ha
        cases ha
        exact (show ∀ y ∈ funT, y.2 ≤ 3 by decide +kernel) y (List.mem_of_find?_eq_some hf)
    have hlook : wdLook funF (S x.2.1) = some (.int (N : Int)) := by rw [fun_look, ha]; rfl
    have e13 := (e1.trans e2).trans e3
    refine q_asgL (el_lst ea_nil (by decide)) fun pa H4 np e4 hp4 => ?_
    refine q_asg (v := .int ((a + 1 : Nat) : Int)) (ev_addN (m := 1) (ev_var rfl) rfl) fun H5 e5 => ?_
    have e15 := (e13.trans e4).trans e5
    have npH := fresh_back e13 np
    have hexp : NoLs (exprN ts ks n (dp + 1)) := expr_noL n (dp + 1)
    refine q_while (fun m σ' H' => ∃ (b : Nat) (acc : List PyData) (vs2 : List V) (y : Option V), N = acc.length + m ∧ σ' = [some (.ref p), some (.int (a : Int)), some (.ref pk), some (.int (dp : Int)), some (.str (S x.1)), some (.str (S x.2.1)), some (.int (x.2.2 : Int)), some (.ref pa), some (.int (b : Int)), y] ∧ Ex H H' ∧ H' pa = some (.lst vs2) ∧ DtA H' vs2 acc ∧ noLA acc = true ∧ argsG (exprN ts ks n (dp + 1)) ts x.2.1 m acc b = some r) N ⟨a + 1, [], [], _, by show N = 0 + N; omega, rfl, e15, e5 _ _ hp4, .nil, by unfold noLA; rfl, hm⟩ ?_
    rintro m σ' H6 ⟨b, acc, vs2, y, hNm, rfl, e6, hp6, hD6, hnl, hm6⟩
    have hvl := hD6.len
    refine ⟨decide (acc.length < N), et_is (et_test (ev_op (ev_len (ev_var rfl) (sq_of hp6)) (ev_op ev_c (ev_var rfl) (rv_wix hlook)) rv_lt)) (by rw [hvl, decide_eq_decide]; omega), fun h H7 e7 => ?_, fun h H7 e7 => ?_⟩
    · have hlt := of_decide_eq_true h
      cases m with
      | zero => omega
      | succ m =>
      have e67 := e6.trans e7
      unfold argsG at hm6
      refine ⟨fun σ' H' => ∃ (b : Nat) (acc : List PyData) (vs2 : List V) (y : Option V), N = acc.length + m ∧ σ' = [some (.ref p), some (.int (a : Int)), some (.ref pk), some (.int (dp : Int)), some (.str (S x.1)), some (.str (S x.2.1)), some (.int (x.2.2 : Int)), some (.ref pa), some (.int (b : Int)), y] ∧ Ex H H' ∧ H' pa = some (.lst vs2) ∧ DtA H' vs2 acc ∧ noLA acc = true ∧ argsG (exprN ts ks n (dp + 1)) ts x.2.1 m acc b = some r, fun σ2 H2 h => ⟨m, Nat.lt_succ_self m, h⟩, ?_⟩
      refine q_when (b := decide (sgn ts (b + 1) = [41])) (et_test (ev_op (ev_sign (ea_cons (ev_var rfl) (ea_cons (ev_addN (m := 1) (ev_var rfl) rfl) ea_nil)) (hT.mono e67)) (ev_cS (l := [41]) rfl) rv_eqS)) (fun h H8 e8 => ?_) fun h H8 e8 => ?_
      · rw [if_pos (of_decide_eq_true h)] at hm6
        cases hx2 : ts[b + 1]? with
        | none => rw [hx2] at hm6; cases hm6
        | some x2 =>
          rw [hx2] at hm6
          dsimp only at hm6
          obtain ⟨hc, hr1⟩ := errG_some hm6
          have e68 := e67.trans e8
          obtain ⟨z2, hz2, ez2⟩ := (hT.mono e68).at_ (K := K) hx2
          exact raise2 (W := fun cls d _ H => E cls d H) (c := x2.2.2) G.x_BadToken.oe (nf2 G) ⟨by decide +kernel, hc⟩ (ev_op (ez2 (ev_var rfl) (ev_addN (m := 1) (ev_var rfl) rfl)) ev_c (rv_ix0 (i := 2) (st_of hz2) rfl)) (ev_cS (l := missA) rfl) fun d2 H' e hd2 => qe _ _ hr1 d2 H' (e68.trans e) hd2
      rw [if_neg (of_decide_eq_false h)] at hm6
      have e68 := e67.trans e8
      refine q_asgS (ea_cons (ev_var rfl) (ea_cons (ev_addN (m := 1) (ev_var rfl) rfl) (ea_cons (ev_var rfl) (ea_cons (ev_addN (m := 1) (ev_var rfl) rfl) ea_nil)))) fun H9 e9 => ?_
      have e69 := e68.trans e9
      cases he : exprN ts ks n (dp + 1) (b + 1) with
      | none => rw [he] at hm6; cases hm6
      | some r1 =>
        rw [he] at hm6
        refine ⟨p, pk, ts, ks, b + 1, dp + 1, r1, rfl, hT.mono e69, hK.mono e69, he, fun d b2 hr1 v Ha ea hv => ?_, fun c why hr1 d H' e hd => ?_⟩
        · subst hr1
          dsimp only at hm6
          obtain ⟨qa, v1, rfl, hqa, hv1⟩ := pairE_inv hv
          refine unp2 hqa ?_
          have hpa := ea _ _ (e9 _ _ (e8 _ _ (e7 _ _ hp6)))
          have hDa := (((hD6.mono e7).mono e8).mono e9).mono ea
          refine q_appD (d := d) hpa (ev_var rfl) (evd_of (ev_var rfl) hv1) (by omega) fun v8 Hb eb hv8 => ?_
          have eF := Ex.mut (o := .lst (vs2 ++ [v8])) ((e69.trans ea).trans eb) npH
          have hDb := dta_app (eb _ _ hpa) (hDa.mono eb) hv8 hnl (hexp _ _ _ he)
          have hlb : (acc ++ [d]).length = acc.length + 1 := by rw [List.length_append]; rfl
          refine s_dropS (vs := [.ref p, .int (b2 : Int), .int (m : Int)]) (ea_cons (ev_var rfl) (ea_cons (ev_var rfl) (ea_cons (ev_is (ev_op (ev_op ev_c (ev_var rfl) (rv_wix hlook)) (ev_len (ev_var rfl) (sq_of upd_same)) rv_I0) (by rw [hDb.len, hlb, hNm]; congr 1; omega)) ea_nil))) fun Hc ec => ?_
          refine ⟨p, ts, b2, m, rfl, hT.mono (eF.trans ec), fun hck Hd ed => ?_, fun c why hck => ?_⟩
          · rw [hck] at hm6
            dsimp only at hm6
            exact ⟨b2, acc ++ [d], vs2 ++ [v8], _, by omega, rfl, (eF.trans ec).trans ed, ed _ _ (ec _ _ upd_same), (hDb.mono ec).mono ed, noLA_snoc hnl (hexp _ _ _ he), hm6⟩
          · rw [hck] at hm6
            dsimp only at hm6
            obtain ⟨hc, hr1⟩ := errG_some hm6
            exact ⟨hc, (qe _ _ hr1).mono (eF.trans ec)⟩
        · subst hr1
          dsimp only at hm6
          exact qe c why (Option.some.inj hm6).symm d H' (e69.trans e) hd
    · have hge := of_decide_eq_false h
      have hm0 : m = 0 := by omega
      subst hm0
      unfold argsG at hm6
      exact s_retD (evd_tup (eda_cons (evd_tup (eda_cons (evd_cS (l := lit "call") rfl) (eda_cons (evd_str (ev_var rfl)) (eda_cons (evd_tupOf (ev_var rfl) (e7 _ _ hp6) (hD6.mono e7)) eda_nil))) (by show 3 ≤ 100000; decide)) (eda_cons (evd_int (ev_addN (m := 1) (ev_var rfl) rfl)) eda_nil)) (by show 2 ≤ 100000; decide)) ((q _ _ (Option.some.inj hm6).symm).mono (e6.trans e7))
theorem ok__expression {f : Addr} {fd : FuncData} {lv n : Nat} (F : Fun K "_expression" "_expression" s__expression f fd) (T : Tx mg) (G : Gx K mg) (C__term : Kn.ClX P w K mg base (lv + 7) "_term" (sp__term G n)) (C__sign : Kn.Cl P w K mg base 1 "_sign" (sp__sign K)) : FnOk P w K mg base (L2.CX P w) (lv + 8) f fd ["tokens", "start", "known", "depth"] (sp__expression G (n + 1)) := by
  refine F.okX sc__expression (fun vs H Q E h => ?_) (fun cdv A outer s H vs Q E hr h => ?_)
  · obtain ⟨p, pk, ts, ks, a, dp, r, rfl, _⟩ := h
    rfl
  · obtain ⟨p, pk, ts, ks, a, dp, r, rfl, hT, hK, hm, q, qe⟩ := h
    refine ⟨_, (pss_cons (ps_asg (Kn.pe_clX C__term hr (by omega) (by rfl) (takes_of rfl rfl rfl rfl) (pa_cons (pv 0) (pa_cons (pv 1) (pa_cons (pv 2) (pa_cons (pv 3) pa_nil))))) (pg_tup rfl (pgs_cons (pg_name (i := 4) sc__expression.nd rfl (Or.inl rfl)) (pgs_cons (pg_name (i := 5) sc__expression.nd rfl (Or.inl rfl)) pgs_nil))))
      (pss_cons (ps_set (i := 6) sc__expression.nd rfl (Or.inl rfl) (pe_lst (pa_cons (pv 4) pa_nil)))
      (pss_cons (ps_while (passes_of rfl) (pt_cmpR op_eq (Kn.pe_cl C__sign hr (by omega) (by rfl) (pa_cons (pv 0) (pa_cons (pv 5) pa_nil))) pe_str (nomark _)) (pss_cons (ps_asg (Kn.pe_clX C__term hr (by omega) (by rfl) (takes_of rfl rfl rfl rfl) (pa_cons (pv 0) (pa_cons (pe_op op_add (pv 5) pe_int) (pa_cons (pv 2) (pa_cons (pv 3) pa_nil))))) (pg_tup rfl (pgs_cons (pg_name (i := 4) sc__expression.nd rfl (Or.inl rfl)) (pgs_cons (pg_name (i := 5) sc__expression.nd rfl (Or.inl rfl)) pgs_nil))))
      (pss_one (ps_expr (pe_bm PySem.F.plainAttrs_list PySem.F.slot_list_append PySem.F.type_list_append mt_append (pv 6) (pa_cons (pv 4) pa_nil))))))
      (pss_cons (ps_if (pt_cmpR op_eq (pe_callB Kn.cr_lenSeq (by rfl) T.b_len PySem.boot_len (pa_cons (pv 6) pa_nil)) pe_int (nomark _)) (pss_one (ps_ret (pe_tup (pa_cons (pv 4) (pa_cons (pv 5) pa_nil))))) pss_nil)
      (pss_one (ps_ret (pe_tup (pa_cons (pe_tup (pa_cons pe_str (pa_cons (pe_callTy call_tuple_of (by rfl) T.b_tuple (by decide +kernel) (pa_cons (pv 6) pa_nil)) pa_nil))) (pa_cons (pv 5) pa_nil))))))))), ?_⟩
    unfold exprN at hm
    have htm : NoLs (termG (callG (exprN ts ks n (dp + 1)) ts dp) ts ks) := term_noL (call_noL (expr_noL n (dp + 1)))
    generalize hter : termG (callG (exprN ts ks n (dp + 1)) ts dp) ts ks = ter at hm htm
    refine q_asgS (ea_cons (ev_var rfl) (ea_cons (ev_var rfl) (ea_cons (ev_var rfl) (ea_cons (ev_var rfl) ea_nil)))) fun H1 e1 => ?_
    cases he : ter a with
    | none => rw [he] at hm; cases hm
    | some r1 =>
      rw [he] at hm
      refine ⟨p, pk, ts, ks, a, dp, r1, rfl, hT.mono e1, hK.mono e1, by rw [hter]; exact he, fun d b hr1 v H2 e2 hv => ?_, fun c why hr1 d H' e hd => ?_⟩
      rotate_left
      · subst hr1
        dsimp only at hm
        exact qe c why (Option.some.inj hm).symm d H' (e1.trans e) hd
      subst hr1
      dsimp only at hm
      obtain ⟨qa, v1, rfl, hqa, hv1⟩ := pairE_inv hv
      refine unp2 hqa ?_
      have e12 := e1.trans e2
      refine q_asgL (el_lst (ea_cons (ev_var rfl) ea_nil) (by show 1 ≤ 100000; decide)) fun pa H3 np e3 hp3 => ?_
      have npH := fresh_back e12 np
      refine q_while (fun m σ' H' => ∃ (b : Nat) (d : PyData) (v1 : V) (acc : List PyData) (vs2 : List V), σ' = [some (.ref p), some (.int (a : Int)), some (.ref pk), some (.int (dp : Int)), some v1, some (.int (b : Int)), some (.ref pa)] ∧ Ex H H' ∧ H' pa = some (.lst vs2) ∧ DtA H' vs2 acc ∧ noLA acc = true ∧ noL d = true ∧ Dt H' v1 d ∧ acc.length ≤ 2000 ∧ moreG ter ts m acc d b = some r) (ts.length + 1) ⟨b, d, v1, [d], [v1], rfl, e12.trans e3, hp3, .cons (hv1.mono e3) .nil, noLA_snoc (ds := []) (by unfold noLA; rfl) (htm _ _ _ he), htm _ _ _ he, hv1.mono e3, by show 1 ≤ 2000; decide, hm⟩ ?_
      clear hm he hv1 hp3 hqa
      rintro m σ' H4 ⟨b, d, v1, acc, vs2, rfl, e4, hp4, hD4, hnl, hnd, hv1, hacc, hm4⟩
      have hvl := hD4.len
      cases m with
      | zero => unfold moreG at hm4; cases hm4
      | succ m =>
      unfold moreG at hm4
      refine ⟨decide (sgn ts b = [43]), et_test (ev_op (ev_sign (ea_cons (ev_var rfl) (ea_cons (ev_var rfl) ea_nil)) (hT.mono e4)) (ev_cS (l := [43]) rfl) rv_eqS), fun h H5 e5 => ?_, fun h H5 e5 => ?_⟩
      · rw [if_pos (of_decide_eq_true h)] at hm4
        refine ⟨fun σ' H' => ∃ (b : Nat) (d : PyData) (v1 : V) (acc : List PyData) (vs2 : List V), σ' = [some (.ref p), some (.int (a : Int)), some (.ref pk), some (.int (dp : Int)), some v1, some (.int (b : Int)), some (.ref pa)] ∧ Ex H H' ∧ H' pa = some (.lst vs2) ∧ DtA H' vs2 acc ∧ noLA acc = true ∧ noL d = true ∧ Dt H' v1 d ∧ acc.length ≤ 2000 ∧ moreG ter ts m acc d b = some r, fun σ2 H2 h => ⟨m, Nat.lt_succ_self m, h⟩, ?_⟩
        refine q_asgS (ea_cons (ev_var rfl) (ea_cons (ev_addN (m := 1) (ev_var rfl) rfl) (ea_cons (ev_var rfl) (ea_cons (ev_var rfl) ea_nil)))) fun H6 e6 => ?_
        have e46 := (e4.trans e5).trans e6
        cases he : ter (b + 1) with
        | none => rw [he] at hm4; cases hm4
        | some r1 =>
          rw [he] at hm4
          refine ⟨p, pk, ts, ks, b + 1, dp, r1, rfl, hT.mono e46, hK.mono e46, by rw [hter]; exact he, fun d2 b2 hr1 v H7 e7 hv => ?_, fun c why hr1 d H' e hd => ?_⟩
          rotate_left
          · subst hr1
            dsimp only at hm4
            exact qe c why (Option.some.inj hm4).symm d H' (e46.trans e) hd
          subst hr1
          dsimp only at hm4
          have hacc2 : acc.length < 1000 := by
            split at hm4
            · next hz => exact hz
            · cases hm4
          rw [if_pos hacc2] at hm4
          obtain ⟨qa, v2, rfl, hqa, hv2⟩ := pairE_inv hv
          refine unp2 hqa ?_
          have hp7 := e7 _ _ (e6 _ _ (e5 _ _ hp4))
          have hD7 := ((hD4.mono e5).mono e6).mono e7
          have hn2 := htm _ _ _ he
          refine s_appD (d := d2) hp7 (ev_var rfl) (evd_of (ev_var rfl) hv2) (by omega) fun v8 Hb eb hv8 => ?_
          have eF := Ex.mut (o := .lst (vs2 ++ [v8])) ((e46.trans e7).trans eb) npH
          have hDb := dta_app (eb _ _ hp7) (hD7.mono eb) hv8 hnl hn2
          exact ⟨b2, d2, v2, acc ++ [d2], vs2 ++ [v8], rfl, eF, upd_same, hDb, noLA_snoc hnl hn2, hn2, (hv2.mono eb).upd (eb _ _ hp7) (fun _ z => nomatch z) hn2, by rw [List.length_append]; show _ + 1 ≤ 2000; omega, hm4⟩
      · rw [if_neg (of_decide_eq_false h)] at hm4
        have e45 := e4.trans e5
        refine q_when (b := decide (acc.length = 1)) (et_is (et_test (ev_op (ev_len (ev_var rfl) (sq_of (e5 _ _ hp4))) ev_c rv_eqI)) (by rw [hvl, decide_eq_decide]; omega)) (fun h H6 e6 => ?_) fun h H6 e6 => ?_
        · rw [if_pos (of_decide_eq_true h)] at hm4
          exact s_retD (evd_tup (eda_cons (evd_of (ev_var rfl) ((hv1.mono e5).mono e6)) (eda_cons (evd_int (ev_var rfl)) eda_nil)) (by show 2 ≤ 100000; decide)) ((q _ _ (Option.some.inj hm4).symm).mono (e45.trans e6))
        · rw [if_neg (of_decide_eq_false h)] at hm4
          exact s_retD (evd_tup (eda_cons (evd_tup (eda_cons (evd_cS (l := lit "join") rfl) (eda_cons (evd_tupOf (ev_var rfl) (e6 _ _ (e5 _ _ hp4)) ((hD4.mono e5).mono e6)) eda_nil)) (by show 2 ≤ 100000; decide)) (eda_cons (evd_int (ev_var rfl)) eda_nil)) (by show 2 ≤ 100000; decide)) ((q _ _ (Option.some.inj hm4).symm).mono (e45.trans e6))
def sp_parse_expression (G : Gx K mg) : Sp := fun vs H Q E => ∃ (p pk : Addr) (ts : List Tok3) (ks : List (List Nat)) (a : Nat) (r : Rs (PyData × Nat)), vs = [.ref p, .int (a : Int), .ref pk] ∧ TLs H p ts ∧ KnL H pk ks ∧ exprN ts ks 7 0 a = some r ∧ RdE H Q E G.c_BadToken r
theorem ok_parse_expression {f : Addr} {fd : FuncData} (F : Fun K "parse_expression" "parse_expression" s_parse_expression f fd) (T : Tx mg) (G : Gx K mg) (C__expression : Kn.ClX P w K mg base 26 "_expression" (sp__expression G 7)) : FnOk P w K mg base (L2.CX P w) 27 f fd ["tokens", "start", "known"] (sp_parse_expression G) := by
  refine F.okX sc_parse_expression (fun vs H Q E h => ?_) (fun cdv A outer s H vs Q E hr h => ?_)
  · obtain ⟨p, pk, ts, ks, a, r, rfl, _⟩ := h
    rfl
  · obtain ⟨p, pk, ts, ks, a, r, rfl, hT, hK, hm, q, qe⟩ := h
    refine ⟨_, (pss_one (ps_ret (Kn.pe_clX C__expression hr (by decide) (by rfl) (takes_of rfl rfl rfl rfl) (pa_cons (pv 0) (pa_cons (pv 1) (pa_cons (pv 2) (pa_cons pe_int pa_nil))))))), ?_⟩
    refine s_retS (ea_cons (ev_var rfl) (ea_cons (ev_var rfl) (ea_cons (ev_var rfl) (ea_cons (ev_c (v := .int ((0 : Nat) : Int))) ea_nil)))) fun H1 e1 => ?_
    exact ⟨p, pk, ts, ks, a, 0, r, rfl, hT.mono e1, hK.mono e1, hm, fun d b hr1 => (q d b hr1).mono e1, fun c why hr1 => (qe c why hr1).mono e1⟩
end

section
def nots : List Nat := (List.replicate 6 [110, 111, 116, 40]).flatten
def casesL (pad tail : List Nat) : List (List Nat × Nat × List Nat) := [(((pad ++ (lit "b")) ++ tail), pad.length + 1, lit "unknown name"), (((pad ++ (lit "a-b")) ++ tail), pad.length + 1, lit "invalid name"), (((pad ++ (lit "abcdefghijklm")) ++ tail), pad.length + 1, lit "invalid name"), (((pad ++ (lit "reed(a)")) ++ tail), pad.length + 1, lit "unknown function"), ((pad ++ (lit "same(a, +)")), pad.length + 9, lit "unexpected token"), (((pad ++ (lit ")")) ++ tail), pad.length + 1, lit "unexpected token"), (((pad ++ (lit "not()")) ++ tail), pad.length + 5, lit "missing argument"), (((pad ++ (lit "same(stem)")) ++ tail), pad.length + 10, lit "missing argument"), (((pad ++ (lit "same(stem,)")) ++ tail), pad.length + 11, lit "missing argument"), (((pad ++ (lit "upper(a, a)")) ++ tail), pad.length + 8, lit "extra argument"), (((pad ++ (lit "swap(a, a, a, a)")) ++ tail), pad.length + 13, lit "extra argument"), (((pad ++ (lit "not(a a)")) ++ tail), pad.length + 7, lit "unexpected token"), ((pad ++ (lit "not(a")), 0, lit "missing token"), ((pad ++ (lit "same(a,")), 0, lit "missing token"), (pad, 0, lit "missing token"), (((((pad ++ nots) ++ (lit "not(a")) ++ (List.replicate 7 41)) ++ tail), pad.length + 25, lit "too deep"), (((((pad ++ nots) ++ (lit "reed(a")) ++ (List.replicate 7 41)) ++ tail), pad.length + 25, lit "too deep"), ((pad ++ (lit "not(a + )")), pad.length + 9, lit "unexpected token"), (((pad ++ (lit "(a)")) ++ tail), pad.length + 1, lit "unexpected token"), ((pad ++ (lit "not (,)")), pad.length + 6, lit "unexpected token"), ((pad ++ (lit "stem(a)")), pad.length + 1, lit "unknown function")]
def padL (size : Nat) : List Nat := [34] ++ List.replicate size 120 ++ [34, 32, 43, 32]
def tailsL : List (List Nat) := [lit "", lit " + a", lit " + \"q\"", lit " + not(a)"]
def KS : List (List Nat) := [lit "stem", lit "a"]
def isBad : Res → Nat → List Nat → Bool
  | some (.inr (c, w)), c2, w2 => decide (c = c2) && decide (w = w2)
  | _, _, _ => false
def isOk : Res → Bool
  | some (.inl _) => true
  | _ => false
def okCase (x : List Nat × Nat × List Nat) : Bool := decide (x.1.length ≤ 200) && decide (x.2.2.length ≤ 100) && okS x.2.2 && match scan x.1 with
  | .inl ts => isBad (exprN ts KS 7 0 0) x.2.1 x.2.2
  | .inr _ => false
def goodL (depth : Nat) (tail : List Nat) : List Nat := (List.replicate depth [110, 111, 116, 40]).flatten ++ lit "same(a, stem)" ++ List.replicate depth 41 ++ tail
def okGood (l : List Nat) : Bool := decide (l.length ≤ 200) && match scan l with
  | .inl ts => isOk (exprN ts KS 7 0 0)
  | .inr _ => false
theorem good_all : ((List.range 6).all fun d => tailsL.all fun t => okGood (goodL d t)) = true := by decide +kernel
end

section
variable {P : Program} {w : World} {K : PySem.W.Frag} {mg : Str → Option Value} {base : Heap}
theorem case_all : ((List.range 30).all fun s => tailsL.all fun t => (casesL (padL s) t).all okCase) = true := by decide +kernel
def EvB (te : TE) (σ : L2.St) (H : Hp) (l : List Nat) (n : Nat) : Prop := Ev te σ H (.str (S l)) ∧ l.length ≤ n
theorem evb_var {σ : L2.St} {H : Hp} {i : Nat} {l : List Nat} {n : Nat} (h : σ[i]? = some (some (.str (S l)))) (hl : l.length ≤ n) : EvB (tVar i) σ H l n := ⟨ev_var h, hl⟩
theorem evb_c {σ : L2.St} {H : Hp} {s : Str} {l : List Nat} (hs : s.cps.toList = l) (hl : l.length ≤ 100) : EvB (tC (.str s)) σ H l 100 := ⟨ev_cS hs, hl⟩
theorem evb_of {σ : L2.St} {H : Hp} {te : TE} {l : List Nat} (h : Ev te σ H (.str (S l))) (hl : l.length ≤ 100) : EvB te σ H l 100 := ⟨h, hl⟩
theorem evb_add {σ : L2.St} {H : Hp} {ta tb : TE} {a b : List Nat} {n m : Nat} (ha : EvB ta σ H a n) (hb : EvB tb σ H b m) (h : n + m ≤ 100000) : EvB (tOp rAddStr ta tb) σ H (a ++ b) (n + m) :=
  ⟨ev_op ha.1 hb.1 (rv_addS (by have := ha.2; have := hb.2; omega)), by rw [List.length_append]; have := ha.2; have := hb.2; omega⟩
def ansP : Rs (PyData × Nat) → PyData
  | .inl x => .tuple [.str (S (lit "parsed")), pairE x]
  | .inr (c, why) => .tuple [.str (S (lit "bad")), .int (c : Int), .str (S why), .bool true]
theorem par_ret {sp : Sp} {W : WX} {σ : L2.St} {H : Hp} {D : Ends} {x : V} {xs : List V} {tl : TE} {word : Str} (h0 : σ[0]? = some (some x)) (hl : EvL tl σ H xs)
    (hs : ∀ pk H1, Ex H H1 → H1 pk = some (.lst xs) → sp [x, .int 0, .ref pk] H1 (fun v H2 => [V.str word, v].length ≤ sizeLine ∧ ∀ q, H2 q = none → D.rt (.ref q) (L2.upd H2 q (.tup [.str word, v]))) (WE W σ)) :
    tRet (tTup (tCons (tC (.str word)) (tCons (tCallS sp (WE W) (tCons (tVar 0) (tCons (tC (.int 0)) (tCons tl tNil)))) tNil))) D σ H := ⟨x, h0, hl H (Ex.refl _) _ fun pk H1 np e1 hp => hs pk H1 e1 hp⟩
def sp__law_parsed (_ : Gx K mg) : Sp := fun vs H Q _ => ∃ (p : Addr) (ts : List Tok3) (r : Rs (PyData × Nat)), vs = [.ref p] ∧ TLs H p ts ∧ exprN ts KS 7 0 0 = some r ∧ RtD H (ansP r) Q
theorem ok__law_parsed {f : Addr} {fd : FuncData} (F : Fun K "_law_parsed" "_law_parsed" s__law_parsed f fd) (T : Tx mg) (G : Gx K mg) (C_parse_expression : Kn.ClX P w K mg base 27 "parse_expression" (sp_parse_expression G)) : FnOk P w K mg base CX0 28 f fd ["tokens"] (sp__law_parsed G) := by
  refine F.ok sc__law_parsed (fun vs H Q E h => ?_) (fun cdv A outer s H vs Q E hr h => ?_)
  · obtain ⟨p, ts, r, rfl, _⟩ := h
    rfl
  · obtain ⟨p, ts, r, rfl, hT, hm, q⟩ := h
    refine ⟨_, (pss_one (ps_try_as (i := 1) (tb := fun W => (tRet (tTup (tCons (tC (.str (Str.ofString "parsed"))) (tCons (tCallS (sp_parse_expression G) (WE W) (tCons (tVar 0) (tCons (tC (.int 0)) (tCons (tLst (tCons (tC (.str (Str.ofString "stem"))) (tCons (tC (.str (Str.ofString "a"))) tNil))) tNil)))) tNil))))) (ts := fun a cls d => (tRet (tTup (tCons (tC (.str (Str.ofString "bad"))) (tCons (tXf a cls d G.c_BadToken "column" (tVar 1)) (tCons (tXf a cls d G.c_BadToken "reason" (tVar 1)) (tCons (tCB (rIsX K a cls d) (tCons (tVar 1) (tCons (tC (.ref G.c_BuildError)) tNil))) tNil))))))) (Wout := (fun _ _ _ _ => False)) rfl rfl sc__law_parsed.nd rfl rfl ⟨rfl, by decide, Or.inl G.g_BadToken⟩ takes0
      (fun W pn xe tk po => (pss_one (ps_ret (pe_tup (pa_cons pe_str (pa_cons (Kn.pe_clX C_parse_expression hr (by decide) (by rfl) tk (pa_cons (pv 0) (pa_cons pe_int (pa_cons (pe_lst (pa_cons pe_str (pa_cons pe_str pa_nil))) pa_nil)))) pa_nil))))))
      (fun a oe cls d pn hz hf => (pss_one (ps_ret (pe_tup (pa_cons pe_str (pa_cons (pe_xf G.x_BadToken.xf G.n_BadToken_column hz hf (pv 1)) (pa_cons (pe_xf G.x_BadToken.xf G.n_BadToken_reason hz hf (pv 1)) (pa_cons (pe_callB (Kn.cr_isX hz hf) rfl T.b_isinstance (by decide +kernel) (pa_cons (pv 1) (pa_cons (pe_glob rfl G.g_BuildError rfl) pa_nil))) pa_nil)))))))))), ?_⟩
    refine par_ret (xs := KS.map fun l => V.str (S l)) rfl (el_lst (ea_cons (ev_cS rfl) (ea_cons (ev_cS rfl) ea_nil)) (by show 2 ≤ 100000; decide)) fun pk H1 e1 hpk => ?_
    refine ⟨p, pk, ts, KS, 0, r, rfl, hT.mono e1, ⟨hpk, by decide⟩, hm, fun d b hr1 v H2 e2 hv => ?_, fun c why hr1 d H' e hd => ?_⟩
    · subst hr1
      refine ⟨sz_of (by show 2 ≤ 100000; decide), fun p hp => q _ _ ((e1.trans e2).trans (Ex.new hp)) (.tup upd_same (.cons ?_ (.cons (hv.mono (Ex.new hp)) .nil)))⟩
      rw [S1 (Str.ofString "parsed") (l := lit "parsed") rfl]
      exact .str _
    · subst hr1
      refine as_hit G.x_BadToken.me fun a na => ?_
      refine ⟨_, rfl, rfl, rfl, d, _, _, rfl, hd, by rfl, ?_⟩
      refine ⟨_, rfl, rfl, rfl, d, _, _, rfl, hd, by rfl, ?_⟩
      refine ⟨_, rfl, _, d, _, .ref G.c_BuildError, _, true, rfl, rfl, G.x_BadToken.xc, hd, rfl, fun u h => h, G.x_BadToken.kB, ?_⟩
      refine ⟨sz_of (by show 4 ≤ 100000; decide), fun p hp => q _ _ ((e1.trans e).trans (Ex.new hp)) (.tup upd_same (.cons ?_ (.cons (.int _) (.cons (.str _) (.cons (.bl _) .nil)))))⟩
      rw [S1 (Str.ofString "bad") (l := lit "bad") rfl]
      exact .str _
def caseD (x : List Nat × Nat × List Nat) : PyData := .tuple [.str (S x.1), .int (x.2.1 : Int), .str (S x.2.2)]
def sp__law_case (_ : PySem.W.Frag) : Sp := fun vs H Q _ => ∃ (kind size : Nat) (tail : List Nat) (x : List Nat × Nat × List Nat), vs = [.int (kind : Int), .int (size : Int), .str (S tail)] ∧ size < 30 ∧ tail.length ≤ 100 ∧ (casesL (padL size) tail)[kind]? = some x ∧ RtD H (caseD x) Q
theorem ok__law_case {f : Addr} {fd : FuncData} (F : Fun K "_law_case" "_law_case" s__law_case f fd) (T : Tx mg) (G : Gx K mg)  : FnOk P w K mg base CX0 1 f fd ["kind", "size", "tail"] (sp__law_case K) := by
  refine F.ok sc__law_case (fun vs H Q E h => ?_) (fun cdv A outer s H vs Q E hr h => ?_)
  · obtain ⟨kind, size, tail, x, rfl, _⟩ := h
    rfl
  · obtain ⟨kind, size, tail, x, rfl, hsz, htail, hx, q⟩ := h
    refine ⟨_, (pss_cons (ps_set (i := 3) sc__law_case.nd rfl (Or.inl rfl) (pe_op Kn.op_addS (pe_op Kn.op_addS pe_str (pe_op Kn.op_mulS pe_str (pv 1))) pe_str))
      (pss_cons (ps_set (i := 4) sc__law_case.nd rfl (Or.inl rfl) (pe_callB Kn.cr_lenStr (by rfl) T.b_len PySem.boot_len (pa_cons (pv 3) pa_nil)))
      (pss_cons (ps_set (i := 5) sc__law_case.nd rfl (Or.inl rfl) (pe_op Kn.op_mulS pe_str pe_int))
      (pss_cons (ps_set (i := 6) sc__law_case.nd rfl (Or.inl rfl) (pe_lst (pa_cons (pe_tup (pa_cons (pe_op Kn.op_addS (pe_op Kn.op_addS (pv 3) pe_str) (pv 2)) (pa_cons (pe_op op_add (pv 4) pe_int) (pa_cons pe_str pa_nil)))) (pa_cons (pe_tup (pa_cons (pe_op Kn.op_addS (pe_op Kn.op_addS (pv 3) pe_str) (pv 2)) (pa_cons (pe_op op_add (pv 4) pe_int) (pa_cons pe_str pa_nil)))) (pa_cons (pe_tup (pa_cons (pe_op Kn.op_addS (pe_op Kn.op_addS (pv 3) pe_str) (pv 2)) (pa_cons (pe_op op_add (pv 4) pe_int) (pa_cons pe_str pa_nil)))) (pa_cons (pe_tup (pa_cons (pe_op Kn.op_addS (pe_op Kn.op_addS (pv 3) pe_str) (pv 2)) (pa_cons (pe_op op_add (pv 4) pe_int) (pa_cons pe_str pa_nil)))) (pa_cons (pe_tup (pa_cons (pe_op Kn.op_addS (pv 3) pe_str) (pa_cons (pe_op op_add (pv 4) pe_int) (pa_cons pe_str pa_nil)))) (pa_cons (pe_tup (pa_cons (pe_op Kn.op_addS (pe_op Kn.op_addS (pv 3) pe_str) (pv 2)) (pa_cons (pe_op op_add (pv 4) pe_int) (pa_cons pe_str pa_nil)))) (pa_cons (pe_tup (pa_cons (pe_op Kn.op_addS (pe_op Kn.op_addS (pv 3) pe_str) (pv 2)) (pa_cons (pe_op op_add (pv 4) pe_int) (pa_cons pe_str pa_nil)))) (pa_cons (pe_tup (pa_cons (pe_op Kn.op_addS (pe_op Kn.op_addS (pv 3) pe_str) (pv 2)) (pa_cons (pe_op op_add (pv 4) pe_int) (pa_cons pe_str pa_nil)))) (pa_cons (pe_tup (pa_cons (pe_op Kn.op_addS (pe_op Kn.op_addS (pv 3) pe_str) (pv 2)) (pa_cons (pe_op op_add (pv 4) pe_int) (pa_cons pe_str pa_nil)))) (pa_cons (pe_tup (pa_cons (pe_op Kn.op_addS (pe_op Kn.op_addS (pv 3) pe_str) (pv 2)) (pa_cons (pe_op op_add (pv 4) pe_int) (pa_cons pe_str pa_nil)))) (pa_cons (pe_tup (pa_cons (pe_op Kn.op_addS (pe_op Kn.op_addS (pv 3) pe_str) (pv 2)) (pa_cons (pe_op op_add (pv 4) pe_int) (pa_cons pe_str pa_nil)))) (pa_cons (pe_tup (pa_cons (pe_op Kn.op_addS (pe_op Kn.op_addS (pv 3) pe_str) (pv 2)) (pa_cons (pe_op op_add (pv 4) pe_int) (pa_cons pe_str pa_nil)))) (pa_cons (pe_tup (pa_cons (pe_op Kn.op_addS (pv 3) pe_str) (pa_cons pe_int (pa_cons pe_str pa_nil)))) (pa_cons (pe_tup (pa_cons (pe_op Kn.op_addS (pv 3) pe_str) (pa_cons pe_int (pa_cons pe_str pa_nil)))) (pa_cons (pe_tup (pa_cons (pv 3) (pa_cons pe_int (pa_cons pe_str pa_nil)))) (pa_cons (pe_tup (pa_cons (pe_op Kn.op_addS (pe_op Kn.op_addS (pe_op Kn.op_addS (pe_op Kn.op_addS (pv 3) (pv 5)) pe_str) (pe_op Kn.op_mulS pe_str pe_int)) (pv 2)) (pa_cons (pe_op op_add (pv 4) pe_int) (pa_cons pe_str pa_nil)))) (pa_cons (pe_tup (pa_cons (pe_op Kn.op_addS (pe_op Kn.op_addS (pe_op Kn.op_addS (pe_op Kn.op_addS (pv 3) (pv 5)) pe_str) (pe_op Kn.op_mulS pe_str pe_int)) (pv 2)) (pa_cons (pe_op op_add (pv 4) pe_int) (pa_cons pe_str pa_nil)))) (pa_cons (pe_tup (pa_cons (pe_op Kn.op_addS (pv 3) pe_str) (pa_cons (pe_op op_add (pv 4) pe_int) (pa_cons pe_str pa_nil)))) (pa_cons (pe_tup (pa_cons (pe_op Kn.op_addS (pe_op Kn.op_addS (pv 3) pe_str) (pv 2)) (pa_cons (pe_op op_add (pv 4) pe_int) (pa_cons pe_str pa_nil)))) (pa_cons (pe_tup (pa_cons (pe_op Kn.op_addS (pv 3) pe_str) (pa_cons (pe_op op_add (pv 4) pe_int) (pa_cons pe_str pa_nil)))) (pa_cons (pe_tup (pa_cons (pe_op Kn.op_addS (pv 3) pe_str) (pa_cons (pe_op op_add (pv 4) pe_int) (pa_cons pe_str pa_nil)))) pa_nil)))))))))))))))))))))))
      (pss_one (ps_ret (pe_ix ix_list (pv 6) (pv 0) (fun _ _ => rfl)))))))), ?_⟩
    have hpad : (padL size).length ≤ 100 := by
      unfold padL
      rw [List.length_append, List.length_append, List.length_replicate]
      show 1 + size + 4 ≤ 100
      omega
    have hnots : nots.length ≤ 100 := by decide +kernel
    refine q_asg (v := .str (S (padL size))) (ev_op (ev_op (ev_cS (l := [34]) rfl) (ev_mul1 (c := 120) (n := size) rfl (ev_var rfl) rfl (by omega)) (rv_addS (by rw [List.length_replicate]; show 1 + _ ≤ 100000; omega))) (ev_cS (l := [34, 32, 43, 32]) rfl) (rv_addS (by rw [List.length_append, List.length_replicate]; show 1 + _ + 4 ≤ 100000; omega))) fun H1 e1 => ?_
    generalize padL size = pad at hpad hx
    refine q_asg (v := .int (pad.length : Int)) (ev_cb (ea_cons (ev_var rfl) ea_nil) (rc_lenS (by omega))) fun H2 e2 => ?_
    refine q_asg (v := .str (S nots)) (ev_op (ev_cS (l := [110, 111, 116, 40]) rfl) (ev_c (v := .int ((6 : Nat) : Int))) (rv_mulS (by decide) (by decide))) fun H3 e3 => ?_
    refine q_asgD (d := .list ((casesL pad tail).map caseD)) (evd_lst (eda_cons (evd_tup (eda_cons (evd_str ((evb_add (evb_add (evb_var rfl hpad) (evb_c rfl (by decide +kernel)) (by decide)) (evb_var rfl htail) (by decide))).1) (eda_cons (evd_int (ev_addN (m := 1) (ev_var rfl) rfl)) (eda_cons (evd_cS rfl) eda_nil))) (by show 3 ≤ 100000; decide))
      (eda_cons (evd_tup (eda_cons (evd_str ((evb_add (evb_add (evb_var rfl hpad) (evb_c rfl (by decide +kernel)) (by decide)) (evb_var rfl htail) (by decide))).1) (eda_cons (evd_int (ev_addN (m := 1) (ev_var rfl) rfl)) (eda_cons (evd_cS rfl) eda_nil))) (by show 3 ≤ 100000; decide))
      (eda_cons (evd_tup (eda_cons (evd_str ((evb_add (evb_add (evb_var rfl hpad) (evb_c rfl (by decide +kernel)) (by decide)) (evb_var rfl htail) (by decide))).1) (eda_cons (evd_int (ev_addN (m := 1) (ev_var rfl) rfl)) (eda_cons (evd_cS rfl) eda_nil))) (by show 3 ≤ 100000; decide))
      (eda_cons (evd_tup (eda_cons (evd_str ((evb_add (evb_add (evb_var rfl hpad) (evb_c rfl (by decide +kernel)) (by decide)) (evb_var rfl htail) (by decide))).1) (eda_cons (evd_int (ev_addN (m := 1) (ev_var rfl) rfl)) (eda_cons (evd_cS rfl) eda_nil))) (by show 3 ≤ 100000; decide))
      (eda_cons (evd_tup (eda_cons (evd_str ((evb_add (evb_var rfl hpad) (evb_c rfl (by decide +kernel)) (by decide))).1) (eda_cons (evd_int (ev_addN (m := 9) (ev_var rfl) rfl)) (eda_cons (evd_cS rfl) eda_nil))) (by show 3 ≤ 100000; decide))
      (eda_cons (evd_tup (eda_cons (evd_str ((evb_add (evb_add (evb_var rfl hpad) (evb_c rfl (by decide +kernel)) (by decide)) (evb_var rfl htail) (by decide))).1) (eda_cons (evd_int (ev_addN (m := 1) (ev_var rfl) rfl)) (eda_cons (evd_cS rfl) eda_nil))) (by show 3 ≤ 100000; decide))
      (eda_cons (evd_tup (eda_cons (evd_str ((evb_add (evb_add (evb_var rfl hpad) (evb_c rfl (by decide +kernel)) (by decide)) (evb_var rfl htail) (by decide))).1) (eda_cons (evd_int (ev_addN (m := 5) (ev_var rfl) rfl)) (eda_cons (evd_cS rfl) eda_nil))) (by show 3 ≤ 100000; decide))
      (eda_cons (evd_tup (eda_cons (evd_str ((evb_add (evb_add (evb_var rfl hpad) (evb_c rfl (by decide +kernel)) (by decide)) (evb_var rfl htail) (by decide))).1) (eda_cons (evd_int (ev_addN (m := 10) (ev_var rfl) rfl)) (eda_cons (evd_cS rfl) eda_nil))) (by show 3 ≤ 100000; decide))
      (eda_cons (evd_tup (eda_cons (evd_str ((evb_add (evb_add (evb_var rfl hpad) (evb_c rfl (by decide +kernel)) (by decide)) (evb_var rfl htail) (by decide))).1) (eda_cons (evd_int (ev_addN (m := 11) (ev_var rfl) rfl)) (eda_cons (evd_cS rfl) eda_nil))) (by show 3 ≤ 100000; decide))
      (eda_cons (evd_tup (eda_cons (evd_str ((evb_add (evb_add (evb_var rfl hpad) (evb_c rfl (by decide +kernel)) (by decide)) (evb_var rfl htail) (by decide))).1) (eda_cons (evd_int (ev_addN (m := 8) (ev_var rfl) rfl)) (eda_cons (evd_cS rfl) eda_nil))) (by show 3 ≤ 100000; decide))
      (eda_cons (evd_tup (eda_cons (evd_str ((evb_add (evb_add (evb_var rfl hpad) (evb_c rfl (by decide +kernel)) (by decide)) (evb_var rfl htail) (by decide))).1) (eda_cons (evd_int (ev_addN (m := 13) (ev_var rfl) rfl)) (eda_cons (evd_cS rfl) eda_nil))) (by show 3 ≤ 100000; decide))
      (eda_cons (evd_tup (eda_cons (evd_str ((evb_add (evb_add (evb_var rfl hpad) (evb_c rfl (by decide +kernel)) (by decide)) (evb_var rfl htail) (by decide))).1) (eda_cons (evd_int (ev_addN (m := 7) (ev_var rfl) rfl)) (eda_cons (evd_cS rfl) eda_nil))) (by show 3 ≤ 100000; decide))
      (eda_cons (evd_tup (eda_cons (evd_str ((evb_add (evb_var rfl hpad) (evb_c rfl (by decide +kernel)) (by decide))).1) (eda_cons (evd_int (ev_c (v := .int ((0 : Nat) : Int)))) (eda_cons (evd_cS rfl) eda_nil))) (by show 3 ≤ 100000; decide))
      (eda_cons (evd_tup (eda_cons (evd_str ((evb_add (evb_var rfl hpad) (evb_c rfl (by decide +kernel)) (by decide))).1) (eda_cons (evd_int (ev_c (v := .int ((0 : Nat) : Int)))) (eda_cons (evd_cS rfl) eda_nil))) (by show 3 ≤ 100000; decide))
      (eda_cons (evd_tup (eda_cons (evd_str ((evb_var rfl hpad)).1) (eda_cons (evd_int (ev_c (v := .int ((0 : Nat) : Int)))) (eda_cons (evd_cS rfl) eda_nil))) (by show 3 ≤ 100000; decide))
      (eda_cons (evd_tup (eda_cons (evd_str ((evb_add (evb_add (evb_add (evb_add (evb_var rfl hpad) (evb_var rfl hnots) (by decide)) (evb_c rfl (by decide +kernel)) (by decide)) (evb_of (ev_mul1 (c := 41) (n := 7) rfl ev_c rfl (by decide)) (by rw [List.length_replicate]; decide)) (by decide)) (evb_var rfl htail) (by decide))).1) (eda_cons (evd_int (ev_addN (m := 25) (ev_var rfl) rfl)) (eda_cons (evd_cS rfl) eda_nil))) (by show 3 ≤ 100000; decide))
      (eda_cons (evd_tup (eda_cons (evd_str ((evb_add (evb_add (evb_add (evb_add (evb_var rfl hpad) (evb_var rfl hnots) (by decide)) (evb_c rfl (by decide +kernel)) (by decide)) (evb_of (ev_mul1 (c := 41) (n := 7) rfl ev_c rfl (by decide)) (by rw [List.length_replicate]; decide)) (by decide)) (evb_var rfl htail) (by decide))).1) (eda_cons (evd_int (ev_addN (m := 25) (ev_var rfl) rfl)) (eda_cons (evd_cS rfl) eda_nil))) (by show 3 ≤ 100000; decide))
      (eda_cons (evd_tup (eda_cons (evd_str ((evb_add (evb_var rfl hpad) (evb_c rfl (by decide +kernel)) (by decide))).1) (eda_cons (evd_int (ev_addN (m := 9) (ev_var rfl) rfl)) (eda_cons (evd_cS rfl) eda_nil))) (by show 3 ≤ 100000; decide))
      (eda_cons (evd_tup (eda_cons (evd_str ((evb_add (evb_add (evb_var rfl hpad) (evb_c rfl (by decide +kernel)) (by decide)) (evb_var rfl htail) (by decide))).1) (eda_cons (evd_int (ev_addN (m := 1) (ev_var rfl) rfl)) (eda_cons (evd_cS rfl) eda_nil))) (by show 3 ≤ 100000; decide))
      (eda_cons (evd_tup (eda_cons (evd_str ((evb_add (evb_var rfl hpad) (evb_c rfl (by decide +kernel)) (by decide))).1) (eda_cons (evd_int (ev_addN (m := 6) (ev_var rfl) rfl)) (eda_cons (evd_cS rfl) eda_nil))) (by show 3 ≤ 100000; decide))
      (eda_cons (evd_tup (eda_cons (evd_str ((evb_add (evb_var rfl hpad) (evb_c rfl (by decide +kernel)) (by decide))).1) (eda_cons (evd_int (ev_addN (m := 1) (ev_var rfl) rfl)) (eda_cons (evd_cS rfl) eda_nil))) (by show 3 ≤ 100000; decide))
      eda_nil))))))))))))))))))))) (by show 21 ≤ 100000; decide)) fun v H4 e4 hv => ?_
    obtain ⟨a, xs, rfl, ha, hxs⟩ := hv.lst_inv
    exact s_retD (evd_ixL (i := kind) (ev_var rfl) ha hxs (ev_var rfl) rfl (by rw [List.getElem?_map, hx]; rfl)) (q.mono (((e1.trans e2).trans e3).trans e4))
end

section
variable {P : Program} {w : World} {K : PySem.W.Frag} {mg : Str → Option Value} {base : Heap}
theorem ev_ixLit {σ : L2.St} {H : Hp} {ta tb : TE} {xs : List V} {v : V} {i : Nat} {j : Int} (ha : EvL ta σ H xs) (hb : Ev tb σ H (.int j)) (hj : j = (i : Int)) (h : xs[i]? = some v) : Ev (tOp (rIxL K) ta tb) σ H v := fun H1 e Q q =>
  ha H1 e _ fun p H2 np e2 hp => hb H2 (e.trans e2) _ fun H3 e3 => ⟨p, xs, j, v, rfl, rfl, sq_of (e3 _ _ hp), atI_nat' hj h, q H3 (e2.trans e3)⟩
theorem lit_at {ls : List (List Nat)} {i : Nat} (h : i < ls.length) : (ls.map fun l => V.str (S l))[i]? = some (V.str (S (ls.getD i []))) := by
  rw [List.getElem?_map, List.getD_eq_getElem?_getD, List.getElem?_eq_getElem h]
  rfl
theorem scanG_len {l : List Nat} : ∀ (n a : Nat) (acc ts : List Tok3), scanG l n a acc = .inl ts → ts.length ≤ acc.length + n
  | 0, _, acc, ts, h => by
    unfold scanG at h
    cases h
    exact Nat.le_refl _
  | n + 1, a, acc, ts, h => by
    unfold scanG at h
    split at h
    · split at h
      · have := scanG_len n _ _ ts h
        rw [List.length_append, List.length_singleton] at this
        omega
      · cases h
    · cases h
      omega
theorem scan_len {l : List Nat} {ts : List Tok3} (h : scan l = .inl ts) : ts.length ≤ l.length := by
  unfold scan at h
  split at h
  · cases h
    exact Nat.zero_le _
  · have := scanG_len _ _ _ ts h
    rw [List.length_nil] at this
    omega
theorem isBad_eq {r : Res} {c : Nat} {why : List Nat} (h : isBad r c why = true) : r = some (.inr (c, why)) := by
  unfold isBad at h
  split at h
  · rw [Bool.and_eq_true, decide_eq_true_eq, decide_eq_true_eq] at h
    rw [h.1, h.2]
  · cases h
theorem isOk_eq {r : Res} (h : isOk r = true) : ∃ x, r = some (.inl x) := by
  unfold isOk at h
  split at h
  · exact ⟨_, rfl⟩
  · cases h
theorem okCase_of {x : List Nat × Nat × List Nat} (h : okCase x = true) : x.1.length ≤ 200 ∧ x.2.2.length ≤ 100 ∧ okS x.2.2 = true ∧ ∃ ts, scan x.1 = .inl ts ∧ exprN ts KS 7 0 0 = some (.inr (x.2.1, x.2.2)) := by
  unfold okCase at h
  rw [Bool.and_eq_true, Bool.and_eq_true, Bool.and_eq_true, decide_eq_true_eq, decide_eq_true_eq] at h
  obtain ⟨⟨⟨h1, h2⟩, h3⟩, h4⟩ := h
  cases hs : scan x.1 with
  | inr e => rw [hs] at h4; cases h4
  | inl ts =>
    rw [hs] at h4
    exact ⟨h1, h2, h3, ts, rfl, isBad_eq h4⟩
theorem okGood_of {l : List Nat} (h : okGood l = true) : l.length ≤ 200 ∧ ∃ ts x, scan l = .inl ts ∧ exprN ts KS 7 0 0 = some (.inl x) := by
  unfold okGood at h
  rw [Bool.and_eq_true, decide_eq_true_eq] at h
  cases hs : scan l with
  | inr e => rw [hs] at h; cases h.2
  | inl ts =>
    rw [hs] at h
    obtain ⟨x, hx⟩ := isOk_eq h.2
    exact ⟨h.1, ts, x, rfl, hx⟩
theorem caseD_inv {H : Hp} {v : V} {x : List Nat × Nat × List Nat} (h : Dt H v (caseD x)) : ∃ a, v = .ref a ∧ H a = some (.tup [.str (S x.1), .int (x.2.1 : Int), .str (S x.2.2)]) := by
  obtain ⟨a, xs, rfl, ha, hx⟩ := h.tup_inv
  cases hx with
  | cons h1 hx =>
    cases hx with
    | cons h2 hx =>
      cases hx with
      | cons h3 hx =>
        cases hx
        rw [h1.str_inv, h2.int_inv, h3.str_inv] at ha
        exact ⟨a, rfl, ha⟩
theorem evd_listOf {σ : L2.St} {H : Hp} {ta : TE} {p : Addr} {vs : List V} {ds : List PyData} (h : Ev ta σ H (.ref p)) (hp : H p = some (.lst vs)) (hd : DtA H vs ds) :
    EvD (tCB (fun xs H Q => ∃ p ys, xs = [.ref p] ∧ (SqL K H p ys ∨ SqT K H p ys) ∧ ∀ l, H l = none → Q (.ref l) (upd H l (.lst ys))) (tCons ta tNil)) σ H (.list ds) := fun H1 e Q q =>
  h H1 e _ fun H2 e2 => ⟨p, vs, rfl, .inl (sq_of ((e.trans e2) _ _ hp)), fun l hl => q _ _ (e2.trans (Ex.new hl)) (.lst upd_same ((hd.mono (e.trans e2)).mono (Ex.new hl)))⟩
theorem evd_ix0 {σ : L2.St} {H : Hp} {ta : TE} {d : PyData} {ds : List PyData} (ha : EvD ta σ H (.tuple (d :: ds))) : EvD (tOp (rIxT K) ta (tC (.int 0))) σ H d := fun H1 e Q q => ha H1 e _ fun v H2 e2 hv => by
  obtain ⟨a, xs, rfl, hax, hxs⟩ := hv.tup_inv
  cases hxs with
  | cons h1 hr => exact ⟨a, _, 0, _, rfl, rfl, st_of hax, atI_nat' (j := 0) rfl rfl, q _ _ e2 h1⟩
theorem tls_of {H : Hp} {v : V} {ts : List Tok3} (h : Dt H v (toksD ts)) (hl : ts.length ≤ 50000) : ∃ p, v = .ref p ∧ TLs H p ts := by
  obtain ⟨a, xs, rfl, ha, hx⟩ := h.lst_inv
  exact ⟨a, rfl, xs, ha, hx, hl⟩
theorem all_getD {α : Type} {l : List α} {p : α → Bool} (h : l.all p = true) {i : Nat} {x : α} (hx : l[i]? = some x) : p x = true := List.all_eq_true.mp h x (List.mem_of_getElem? hx)
theorem rep_len : ∀ n : Nat, ((List.replicate n [110, 111, 116, 40]).flatten).length = n * 4
  | 0 => rfl
  | n + 1 => by
    rw [List.replicate_succ, List.flatten_cons, List.length_append, rep_len n]
    show 4 + _ = _
    omega
def cell2 (ns : List Int) (i : Nat) : Nat := (cellOf ns i).natAbs
theorem tails_len : ∀ t ∈ tailsL, t.length ≤ 100 := by decide +kernel
def sp_law (K : PySem.W.Frag) : Sp := sp2 (fun (a : Addr) (_ : List Int) => [.ref a]) (fun a ns H => SqL K H a (ns.map V.int) ∧ ns.length ≤ 63) (fun _ _ => .bl true)
theorem ok_law {f : Addr} {fd : FuncData} (F : Fun K "law" "law" s_law f fd) (T : Tx mg) (G : Gx K mg) (C__law_cell : Kn.Cl P w K mg base 1 "_law_cell" (sp__law_cell K)) (C__law_case : Kn.Cl P w K mg base 1 "_law_case" (sp__law_case K)) (C_scan_line : Kn.ClX P w K mg base 6 "scan_line" (sp_scan_line G)) (C__law_parsed : Kn.Cl P w K mg base 28 "_law_parsed" (sp__law_parsed G)) : FnOk P w K mg base CX0 29 f fd ["script"] (sp_law K) := by
  refine F.ok sc_law (fun vs H Q E h => ?_) (fun cdv A outer s H vs Q E hr h => ?_)
  · obtain ⟨a, ns, rfl, _⟩ := h
    rfl
  · obtain ⟨a, ns, rfl, ⟨hS, hl⟩, q⟩ := h
    refine ⟨_, (pss_cons (ps_set (i := 1) sc_law.nd rfl (Or.inl rfl) (pe_callB Kn.cr_abs (by rfl) T.b_abs (by decide +kernel) (pa_cons (Kn.pe_cl C__law_cell hr (by decide) (by rfl) (pa_cons (pv 0) (pa_cons pe_int pa_nil))) pa_nil)))
      (pss_cons (ps_set (i := 2) sc_law.nd rfl (Or.inl rfl) (pe_ix ix_list (pe_lst (pa_cons pe_str (pa_cons pe_str (pa_cons pe_str (pa_cons pe_str pa_nil))))) (pe_op op_mod (pe_op op_fdiv (pv 1) pe_int) pe_int) (fun _ _ => rfl)))
      (pss_cons (ps_set (i := 3) sc_law.nd rfl (Or.inl rfl) (Kn.pe_cl C__law_case hr (by decide) (by rfl) (pa_cons (pe_op op_mod (pv 1) pe_int) (pa_cons (pe_op op_mod (pe_op op_fdiv (pv 1) pe_int) pe_int) (pa_cons (pv 2) pa_nil)))))
      (pss_cons (ps_set (i := 4) sc_law.nd rfl (Or.inl rfl) (Kn.pe_clX C_scan_line hr (by decide) (by rfl) takes0 (pa_cons pe_str (pa_cons pe_int (pa_cons (pe_ix ix_tup (pv 3) pe_int (fun _ _ => rfl)) pa_nil)))))
      (pss_cons (ps_set (i := 5) sc_law.nd rfl (Or.inl rfl) (Kn.pe_cl C__law_parsed hr (by decide) (by rfl) (pa_cons (pe_callTy call_list_of (by rfl) T.b_list (by decide +kernel) (pa_cons (pv 4) pa_nil)) pa_nil)))
      (pss_cons (ps_if (pt_cmpR (op_neD hr.units) (pv 5) (pe_tup (pa_cons pe_str (pa_cons (pe_ix ix_tup (pv 3) pe_int (fun _ _ => rfl)) (pa_cons (pe_ix ix_tup (pv 3) pe_int (fun _ _ => rfl)) (pa_cons pe_bl pa_nil))))) (nomark _)) (pss_one (ps_ret pe_bl)) pss_nil)
      (pss_cons (ps_set (i := 6) sc_law.nd rfl (Or.inl rfl) (pe_op op_mod (pe_op op_fdiv (pv 1) pe_int) pe_int))
      (pss_cons (ps_set (i := 7) sc_law.nd rfl (Or.inl rfl) (Kn.pe_clX C_scan_line hr (by decide) (by rfl) takes0 (pa_cons pe_str (pa_cons pe_int (pa_cons (pe_op Kn.op_addS (pe_op Kn.op_addS (pe_op Kn.op_addS (pe_op Kn.op_mulS pe_str (pv 6)) pe_str) (pe_op Kn.op_mulS pe_str (pv 6))) (pv 2)) pa_nil)))))
      (pss_one (ps_ret (pe_cmpR op_eq (pe_ix ix_tup (Kn.pe_cl C__law_parsed hr (by decide) (by rfl) (pa_cons (pv 7) pa_nil)) pe_int (fun _ _ => rfl)) pe_str (nomark _)))))))))))), ?_⟩
    refine q_asg (v := .int ((cell2 ns 0 : Nat) : Int)) (ev_cellA (ea_cons (ev_var rfl) (ea_cons ev_c ea_nil)) hS) fun H1 e1 => ?_
    generalize cell2 ns 0 = f0
    have ht4 : f0 / 21 % 4 < tailsL.length := Nat.mod_lt _ (by show 0 < 4; decide)
    have htm : tailsL[f0 / 21 % 4]? = some (tailsL.getD (f0 / 21 % 4) []) := by
      rw [List.getD_eq_getElem?_getD, List.getElem?_eq_getElem ht4]
      rfl
    refine q_asg (v := .str (S (tailsL.getD (f0 / 21 % 4) []))) (ev_ixLit (xs := tailsL.map fun l => V.str (S l)) (el_lst (ea_cons (ev_cS rfl) (ea_cons (ev_cS rfl) (ea_cons (ev_cS rfl) (ea_cons (ev_cS rfl) ea_nil)))) (by show 4 ≤ 100000; decide)) (ev_mod (m := 4) (ev_div (m := 21) (ev_var rfl) rfl (by decide)) rfl (by decide)) rfl (lit_at ht4)) fun H2 e2 => ?_
    generalize tailsL.getD (f0 / 21 % 4) [] = t at htm
    have htl := tails_len t (List.mem_of_getElem? htm)
    have hsz : f0 / 84 % 30 < 30 := Nat.mod_lt _ (by decide)
    have h21 : (casesL (padL (f0 / 84 % 30)) t).length = 21 := rfl
    have hk : f0 % 21 < (casesL (padL (f0 / 84 % 30)) t).length := by rw [h21]; exact Nat.mod_lt _ (by decide)
    have hx := List.getElem?_eq_getElem hk
    generalize (casesL (padL (f0 / 84 % 30)) t)[f0 % 21] = x at hx
    have hall := all_getD (l := List.range 30) (i := f0 / 84 % 30) (x := f0 / 84 % 30) case_all (by rw [List.getElem?_range hsz])
    have hcase := all_getD (all_getD (l := tailsL) hall htm) hx
    obtain ⟨x1, x2, x3, ts, hscan, hexp⟩ := okCase_of hcase
    refine q_asgD (d := caseD x) (evd_call (ea_cons (ev_mod (m := 21) (ev_var rfl) rfl (by decide)) (ea_cons (ev_mod (m := 30) (ev_div (m := 84) (ev_var rfl) rfl (by decide)) rfl (by decide)) (ea_cons (ev_var rfl) ea_nil))) fun H3 e3 Q2 q2 _ => ⟨f0 % 21, f0 / 84 % 30, t, x, rfl, hsz, htl, hx, q2⟩) fun v H3 e3 hv => ?_
    obtain ⟨af, rfl, haf⟩ := caseD_inv hv
    refine q_asgD (d := toksD ts) (evd_callS (vs := [.str (S [97]), .int ((3 : Nat) : Int), .str (S x.1)]) (ea_cons (ev_cS (l := [97]) rfl) (ea_cons (ev_c (v := .int ((3 : Nat) : Int))) (ea_cons (ev_op (ev_var rfl) ev_c (rv_ix0 (i := 0) (v := .str (S x.1)) (st_of haf) rfl)) ea_nil))) fun H4 e4 Q2 q2 => ⟨[97], x.1, 3, rfl, ⟨by decide, by omega, by decide, by decide⟩, fun y hy => ?_, fun c why hy => ?_⟩) fun v4 H4 e4 hv4 => ?_
    · rw [hscan] at hy
      cases hy
      exact q2
    · rw [hscan] at hy
      cases hy
    have htsl := scan_len hscan
    obtain ⟨p4, xs4, rfl, hp4, hx4⟩ := hv4.lst_inv
    refine q_asgD (d := ansP (.inr (x.2.1, x.2.2))) (evd_callD (es := [toksD ts]) (eda_cons (evd_listOf (ev_var rfl) hp4 hx4) eda_nil) fun H5 vs5 e5 hvs Q2 q2 _ => ?_) fun v5 H5 e5 hv5 => ?_
    · cases hvs with
      | cons h1 hr5 =>
        cases hr5
        obtain ⟨p5, rfl, hT5⟩ := tls_of h1 (by omega)
        exact ⟨p5, ts, _, rfl, hT5, hexp, q2⟩
    have e15 := (((e1.trans e2).trans e3).trans e4).trans e5
    have haf5 := e5 _ _ (e4 _ _ haf)
    have sh : SeqAt.shaped (ansP (.inr (x.2.1, x.2.2))) = true := shaped_tup (can_cons (canS (by decide +kernel)) (can_cons rfl (can_cons (canS x3) (can_cons rfl can_nil)))) (by show (1 : Nat) ≤ 64; decide)
    refine q_when (b := false) (et_is (et_test (ev_neD (d := ansP (.inr (x.2.1, x.2.2))) (e' := ansP (.inr (x.2.1, x.2.2))) (evd_of (ev_var rfl) hv5) (evd_tup (eda_cons (evd_cS (l := lit "bad") rfl) (eda_cons (evd_int (ev_op (ev_var rfl) ev_c (rv_ix0 (i := 1) (v := .int (x.2.1 : Int)) (st_of haf5) rfl))) (eda_cons (evd_str (ev_op (ev_var rfl) ev_c (rv_ix0 (i := 2) (v := .str (S x.2.2)) (st_of haf5) rfl))) (eda_cons (evd_bl ev_c) eda_nil)))) (by show 4 ≤ 100000; decide)) sh sh)) (by rw [eqv_self sh]; rfl)) (fun hz => nomatch hz) fun _ H6 e6 => ?_
    refine q_asg (v := .int ((f0 / 2520 % 6 : Nat) : Int)) (ev_mod (m := 6) (ev_div (m := 2520) (ev_var rfl) rfl (by decide)) rfl (by decide)) fun H7 e7 => ?_
    have hd6 : f0 / 2520 % 6 < 6 := Nat.mod_lt _ (by decide)
    have hall2 := all_getD (l := List.range 6) (i := f0 / 2520 % 6) (x := f0 / 2520 % 6) good_all (by rw [List.getElem?_range hd6])
    have hgood := all_getD (l := tailsL) hall2 htm
    generalize f0 / 2520 % 6 = dp at hd6 hgood
    obtain ⟨g1, ts2, r2, hscan2, hexp2⟩ := okGood_of hgood
    have hfl : ((List.replicate dp [110, 111, 116, 40]).flatten).length ≤ 24 := by
      rw [rep_len]
      omega
    refine q_asgD (d := toksD ts2) (evd_callS (vs := [.str (S [97]), .int ((3 : Nat) : Int), .str (S (goodL dp t))]) (ea_cons (ev_cS (l := [97]) rfl) (ea_cons (ev_c (v := .int ((3 : Nat) : Int))) (ea_cons (ev_op (ev_op (ev_op (ev_op (ev_cS (l := [110, 111, 116, 40]) rfl) (ev_var rfl) (rv_mulS (by omega) (by decide))) (ev_cS (l := lit "same(a, stem)") rfl) (rv_addS (by show _ + 13 ≤ 100000; omega))) (ev_mul1 (c := 41) (n := dp) rfl (ev_var rfl) rfl (by omega)) (rv_addS (by rw [List.length_append, List.length_replicate]; show _ + 13 + _ ≤ 100000; omega))) (ev_var rfl) (rv_addS (by rw [List.length_append, List.length_append, List.length_replicate]; show _ + 13 + _ + _ ≤ 100000; omega))) ea_nil))) fun H8 e8 Q2 q2 => ⟨[97], goodL dp t, 3, rfl, ⟨by decide, by omega, by decide, by decide⟩, fun y hy => ?_, fun c why hy => ?_⟩) fun v8 H8 e8 hv8 => ?_
    · rw [hscan2] at hy
      cases hy
      exact q2
    · rw [hscan2] at hy
      cases hy
    have htsl2 := scan_len hscan2
    obtain ⟨p8, rfl, hT8⟩ := tls_of hv8 (by omega)
    refine s_ret (v := .bl true) (ev_is (ev_op (ev_ofS (l := lit "parsed") (evd_ix0 (d := .str (S (lit "parsed"))) (ds := [pairE r2]) (evd_call (d := ansP (.inl r2)) (vs := [.ref p8]) (ea_cons (ev_var rfl) ea_nil) fun H9 e9 Q2 q2 _ => ⟨p8, ts2, _, rfl, hT8.mono e9, hexp2, q2⟩))) (ev_cS (l := lit "parsed") rfl) rv_eqS) (by rw [decide_eq_true rfl])) fun H9 e9 => q H9 ((((e15.trans e6).trans e7).trans e8).trans e9)
end

theorem all_mk {l : PySem.W.OpenLaw} {w : World} {K : PySem.W.Frag} {h : Heap} {mg : Str → Option Value} {fa : Addr} (X : K.In h) (G : h.Ns mainGlobals mg) (hfa : mg "law" = some (.ref fa))
    {f0 f1 f2 f3 f4 f5 f6 f7 f8 f9 f10 f11 f12 f13 f14 f15 f16 f17 f18 : Addr} {od0 od1 od2 od3 od4 od5 od6 od7 od8 od9 od10 od11 od12 od13 od14 od15 od16 od17 od18 an0 an1 an2 an3 an4 an5 an6 an7 an8 an9 an10 an11 an12 an13 an14 an15 an16 an17 an18 : Option Addr} {sl0 sl1 sl2 sl3 sl4 sl5 sl6 sl7 sl8 sl9 sl10 sl11 sl12 sl13 sl14 sl15 sl16 sl17 sl18 : Array (Option Value)} {oc0 oc1 oc2 oc3 oc4 oc5 oc6 oc7 oc8 oc9 oc10 oc11 oc12 oc13 oc14 oc15 oc16 oc17 oc18 kV0 kV1 kV2 kV3 kV4 kV5 kV6 kV7 kV8 kV9 kV10 kV11 kV12 kV13 kV14 kV15 kV16 kV17 kV18 dc0 dc1 dc2 dc3 dc4 dc5 dc6 dc7 dc8 dc9 dc10 dc11 dc12 dc13 dc14 dc15 dc16 dc17 dc18 pm0 pm1 pm2 pm3 pm4 pm5 pm6 pm7 pm8 pm9 pm10 pm11 pm12 pm13 pm14 pm15 pm16 pm17 pm18 cd0 cd1 cd2 cd3 cd4 cd5 cd6 cd7 cd8 cd9 cd10 cd11 cd12 cd13 cd14 cd15 cd16 cd17 cd18 ct0 ct1 ct2 ct3 ct4 ct5 ct6 ct7 ct8 ct9 ct10 ct11 ct12 ct13 ct14 ct15 ct16 ct17 ct18 : Value}
    {XB : Addr}
    {X_InvalidRecipe N_InvalidRecipe_ : Addr} {nm_InvalidRecipe q_InvalidRecipe : Str} {bs_InvalidRecipe : List Value} {sn_InvalidRecipe : List Str} {sub_InvalidRecipe : List Value} {ab_InvalidRecipe : Bool} {col_InvalidRecipe : Option Bool} {dd_InvalidRecipe : Option Addr} {m0_InvalidRecipe m1_InvalidRecipe m2_InvalidRecipe m3_InvalidRecipe m5_InvalidRecipe : Option Value}
    {X_BadToken N_BadToken_ : Addr} {nm_BadToken q_BadToken : Str} {bs_BadToken : List Value} {sn_BadToken : List Str} {sub_BadToken : List Value} {ab_BadToken : Bool} {col_BadToken : Option Bool} {dd_BadToken : Option Addr} {m0_BadToken m1_BadToken m2_BadToken m3_BadToken m5_BadToken : Option Value}
    {tk_IDENTIFIER_LENGTH tk_LETTERS tk_IDENTIFIER_SIGNS tk_SIGNS tk_QUOTE tk_BACKSLASH tk_WORD_ENDS tk_MOST_CALLS : Tok}
    {D_ESCAPES : Addr} {es_ESCAPES : Array DictEntry} {n_ESCAPES : Nat} {D_FUNCTIONS : Addr} {es_FUNCTIONS : Array DictEntry} {n_FUNCTIONS : Nat}
    (aB : PySem.W.nsIn K mainGlobals "BuildError" = some (some (.ref XB)))
    (bsp : PySem.W.specialIn K (.ref XB) "__getattribute__" = some (some (.builtin "type.__getattribute__")))
    (brd : PySem.W.readsIn K XB (.type "type") = true)
    (bfi : PySem.W.findCls K (.ref XB) (.type "type") "__init__" = some (.val (.builtin "ValueError.__init__")))
    (bhd : PySem.W.hasDictIn K XB = true)
    (bty : PySem.W.typeIn K (.ref XB) = some (.type "type"))
    (xgs : PySem.W.specialIn K (.builtin "object.__class__") "__get__" = some (some (.builtin "getset_descriptor.__get__")))
    (xtk : PySem.W.takesIn K (.builtin "object.__class__") = some true)
    (xa_InvalidRecipe : PySem.W.nsIn K mainGlobals "InvalidRecipe" = some (some (.ref X_InvalidRecipe)))
    (xL_InvalidRecipe : K.lookup X_InvalidRecipe = some (excClassObj nm_InvalidRecipe q_InvalidRecipe X_InvalidRecipe N_InvalidRecipe_ bs_InvalidRecipe [.ref XB, .type "ValueError", .type "Exception", .type "BaseException", .type "object"] true sn_InvalidRecipe sub_InvalidRecipe ab_InvalidRecipe col_InvalidRecipe dd_InvalidRecipe m0_InvalidRecipe m1_InvalidRecipe m2_InvalidRecipe m3_InvalidRecipe m5_InvalidRecipe "ValueError.__new__"))
    (xsa_InvalidRecipe : PySem.W.findIn K (.ref X_InvalidRecipe) "__setattr__" = some (some (.builtin "object.__setattr__")))
    (xex_InvalidRecipe : PySem.W.subIn K (.ref X_InvalidRecipe) (.type "BaseException") = some true)
    (xty_InvalidRecipe : PySem.W.typeIn K (.ref X_InvalidRecipe) = some (.type "type"))
    (xkc_InvalidRecipe : PySem.W.keepIn K (.ref X_InvalidRecipe) = true)
    (xnpath_InvalidRecipe : PySem.W.findIn K (.ref X_InvalidRecipe) "path" = some none)
    (xnline_InvalidRecipe : PySem.W.findIn K (.ref X_InvalidRecipe) "line" = some none)
    (xncolumn_InvalidRecipe : PySem.W.findIn K (.ref X_InvalidRecipe) "column" = some none)
    (xnreason_InvalidRecipe : PySem.W.findIn K (.ref X_InvalidRecipe) "reason" = some none)
    (xga_InvalidRecipe : PySem.W.findIn K (.ref X_InvalidRecipe) "__getattribute__" = some (some (.builtin "BaseException.__getattribute__")))
    (xgg_InvalidRecipe : PySem.W.findIn K (.ref X_InvalidRecipe) "__getattr__" = some none)
    (xhd_InvalidRecipe : PySem.W.hasDictIn K X_InvalidRecipe = true)
    (xcl_InvalidRecipe : PySem.W.findIn K (.ref X_InvalidRecipe) "__class__" = some (some (.builtin "object.__class__")))
    (xmr_InvalidRecipe : PySem.W.mroIn K X_InvalidRecipe (.type "object") = some true)
    (xcc_InvalidRecipe : PySem.W.subIn K (.ref X_InvalidRecipe) (.ref X_InvalidRecipe) = some true)
    (xkB_InvalidRecipe : PySem.W.subIn K (.ref X_InvalidRecipe) (.ref XB) = some true)
    (xa_BadToken : PySem.W.nsIn K mainGlobals "BadToken" = some (some (.ref X_BadToken)))
    (xL_BadToken : K.lookup X_BadToken = some (excClassObj nm_BadToken q_BadToken X_BadToken N_BadToken_ bs_BadToken [.ref XB, .type "ValueError", .type "Exception", .type "BaseException", .type "object"] true sn_BadToken sub_BadToken ab_BadToken col_BadToken dd_BadToken m0_BadToken m1_BadToken m2_BadToken m3_BadToken m5_BadToken "ValueError.__new__"))
    (xsa_BadToken : PySem.W.findIn K (.ref X_BadToken) "__setattr__" = some (some (.builtin "object.__setattr__")))
    (xex_BadToken : PySem.W.subIn K (.ref X_BadToken) (.type "BaseException") = some true)
    (xty_BadToken : PySem.W.typeIn K (.ref X_BadToken) = some (.type "type"))
    (xkc_BadToken : PySem.W.keepIn K (.ref X_BadToken) = true)
    (xncolumn_BadToken : PySem.W.findIn K (.ref X_BadToken) "column" = some none)
    (xnreason_BadToken : PySem.W.findIn K (.ref X_BadToken) "reason" = some none)
    (xga_BadToken : PySem.W.findIn K (.ref X_BadToken) "__getattribute__" = some (some (.builtin "BaseException.__getattribute__")))
    (xgg_BadToken : PySem.W.findIn K (.ref X_BadToken) "__getattr__" = some none)
    (xhd_BadToken : PySem.W.hasDictIn K X_BadToken = true)
    (xcl_BadToken : PySem.W.findIn K (.ref X_BadToken) "__class__" = some (some (.builtin "object.__class__")))
    (xmr_BadToken : PySem.W.mroIn K X_BadToken (.type "object") = some true)
    (xcc_BadToken : PySem.W.subIn K (.ref X_BadToken) (.ref X_BadToken) = some true)
    (xkB_BadToken : PySem.W.subIn K (.ref X_BadToken) (.ref XB) = some true)
    (a0 : PySem.W.findIn K (.ref X_InvalidRecipe) "__init__" = some (some (.ref f0)))
    (i0 : PySem.W.typeIn K (.ref f0) = some (.type "function"))
    (l0 : K.lookup f0 = some ⟨oc0, od0, .func (PySem.W.fnOf "__init__" "InvalidRecipe.__init__" (defArgs s_InvalidRecipe___init__) (defBody s_InvalidRecipe___init__) (defScope s_InvalidRecipe___init__) .none kV0 dc0 pm0 an0 cd0 ct0), sl0⟩)
    (c0 : PySem.W.codeIn K cd0 "InvalidRecipe.__init__" = true)
    (k0 : PySem.W.keepIn K (.ref f0) = true)
    (a1 : PySem.W.findIn K (.ref X_BadToken) "__init__" = some (some (.ref f1)))
    (i1 : PySem.W.typeIn K (.ref f1) = some (.type "function"))
    (l1 : K.lookup f1 = some ⟨oc1, od1, .func (PySem.W.fnOf "__init__" "BadToken.__init__" (defArgs s_BadToken___init__) (defBody s_BadToken___init__) (defScope s_BadToken___init__) .none kV1 dc1 pm1 an1 cd1 ct1), sl1⟩)
    (c1 : PySem.W.codeIn K cd1 "BadToken.__init__" = true)
    (k1 : PySem.W.keepIn K (.ref f1) = true)
    (a2 : PySem.W.nsIn K mainGlobals "_skip_spaces" = some (some (.ref f2)))
    (l2 : K.lookup f2 = some ⟨oc2, od2, .func (PySem.W.fnOf "_skip_spaces" "_skip_spaces" (defArgs s__skip_spaces) (defBody s__skip_spaces) (defScope s__skip_spaces) .none kV2 dc2 pm2 an2 cd2 ct2), sl2⟩)
    (c2 : PySem.W.codeIn K cd2 "_skip_spaces" = true)
    (k2 : PySem.W.keepIn K (.ref f2) = true)
    (a3 : PySem.W.nsIn K mainGlobals "_string_part" = some (some (.ref f3)))
    (l3 : K.lookup f3 = some ⟨oc3, od3, .func (PySem.W.fnOf "_string_part" "_string_part" (defArgs s__string_part) (defBody s__string_part) (defScope s__string_part) .none kV3 dc3 pm3 an3 cd3 ct3), sl3⟩)
    (c3 : PySem.W.codeIn K cd3 "_string_part" = true)
    (k3 : PySem.W.keepIn K (.ref f3) = true)
    (a4 : PySem.W.nsIn K mainGlobals "_string" = some (some (.ref f4)))
    (l4 : K.lookup f4 = some ⟨oc4, od4, .func (PySem.W.fnOf "_string" "_string" (defArgs s__string) (defBody s__string) (defScope s__string) .none kV4 dc4 pm4 an4 cd4 ct4), sl4⟩)
    (c4 : PySem.W.codeIn K cd4 "_string" = true)
    (k4 : PySem.W.keepIn K (.ref f4) = true)
    (a5 : PySem.W.nsIn K mainGlobals "_token" = some (some (.ref f5)))
    (l5 : K.lookup f5 = some ⟨oc5, od5, .func (PySem.W.fnOf "_token" "_token" (defArgs s__token) (defBody s__token) (defScope s__token) .none kV5 dc5 pm5 an5 cd5 ct5), sl5⟩)
    (c5 : PySem.W.codeIn K cd5 "_token" = true)
    (k5 : PySem.W.keepIn K (.ref f5) = true)
    (a6 : PySem.W.nsIn K mainGlobals "scan_line" = some (some (.ref f6)))
    (l6 : K.lookup f6 = some ⟨oc6, od6, .func (PySem.W.fnOf "scan_line" "scan_line" (defArgs s_scan_line) (defBody s_scan_line) (defScope s_scan_line) .none kV6 dc6 pm6 an6 cd6 ct6), sl6⟩)
    (c6 : PySem.W.codeIn K cd6 "scan_line" = true)
    (k6 : PySem.W.keepIn K (.ref f6) = true)
    (a7 : PySem.W.nsIn K mainGlobals "is_identifier" = some (some (.ref f7)))
    (l7 : K.lookup f7 = some ⟨oc7, od7, .func (PySem.W.fnOf "is_identifier" "is_identifier" (defArgs s_is_identifier) (defBody s_is_identifier) (defScope s_is_identifier) .none kV7 dc7 pm7 an7 cd7 ct7), sl7⟩)
    (c7 : PySem.W.codeIn K cd7 "is_identifier" = true)
    (k7 : PySem.W.keepIn K (.ref f7) = true)
    (a8 : PySem.W.nsIn K mainGlobals "_sign" = some (some (.ref f8)))
    (l8 : K.lookup f8 = some ⟨oc8, od8, .func (PySem.W.fnOf "_sign" "_sign" (defArgs s__sign) (defBody s__sign) (defScope s__sign) .none kV8 dc8 pm8 an8 cd8 ct8), sl8⟩)
    (c8 : PySem.W.codeIn K cd8 "_sign" = true)
    (k8 : PySem.W.keepIn K (.ref f8) = true)
    (a9 : PySem.W.nsIn K mainGlobals "_check_there" = some (some (.ref f9)))
    (l9 : K.lookup f9 = some ⟨oc9, od9, .func (PySem.W.fnOf "_check_there" "_check_there" (defArgs s__check_there) (defBody s__check_there) (defScope s__check_there) .none kV9 dc9 pm9 an9 cd9 ct9), sl9⟩)
    (c9 : PySem.W.codeIn K cd9 "_check_there" = true)
    (k9 : PySem.W.keepIn K (.ref f9) = true)
    (a10 : PySem.W.nsIn K mainGlobals "_check_behind" = some (some (.ref f10)))
    (l10 : K.lookup f10 = some ⟨oc10, od10, .func (PySem.W.fnOf "_check_behind" "_check_behind" (defArgs s__check_behind) (defBody s__check_behind) (defScope s__check_behind) .none kV10 dc10 pm10 an10 cd10 ct10), sl10⟩)
    (c10 : PySem.W.codeIn K cd10 "_check_behind" = true)
    (k10 : PySem.W.keepIn K (.ref f10) = true)
    (a11 : PySem.W.nsIn K mainGlobals "_call" = some (some (.ref f11)))
    (l11 : K.lookup f11 = some ⟨oc11, od11, .func (PySem.W.fnOf "_call" "_call" (defArgs s__call) (defBody s__call) (defScope s__call) .none kV11 dc11 pm11 an11 cd11 ct11), sl11⟩)
    (c11 : PySem.W.codeIn K cd11 "_call" = true)
    (k11 : PySem.W.keepIn K (.ref f11) = true)
    (a12 : PySem.W.nsIn K mainGlobals "_term" = some (some (.ref f12)))
    (l12 : K.lookup f12 = some ⟨oc12, od12, .func (PySem.W.fnOf "_term" "_term" (defArgs s__term) (defBody s__term) (defScope s__term) .none kV12 dc12 pm12 an12 cd12 ct12), sl12⟩)
    (c12 : PySem.W.codeIn K cd12 "_term" = true)
    (k12 : PySem.W.keepIn K (.ref f12) = true)
    (a13 : PySem.W.nsIn K mainGlobals "_expression" = some (some (.ref f13)))
    (l13 : K.lookup f13 = some ⟨oc13, od13, .func (PySem.W.fnOf "_expression" "_expression" (defArgs s__expression) (defBody s__expression) (defScope s__expression) .none kV13 dc13 pm13 an13 cd13 ct13), sl13⟩)
    (c13 : PySem.W.codeIn K cd13 "_expression" = true)
    (k13 : PySem.W.keepIn K (.ref f13) = true)
    (a14 : PySem.W.nsIn K mainGlobals "parse_expression" = some (some (.ref f14)))
    (l14 : K.lookup f14 = some ⟨oc14, od14, .func (PySem.W.fnOf "parse_expression" "parse_expression" (defArgs s_parse_expression) (defBody s_parse_expression) (defScope s_parse_expression) .none kV14 dc14 pm14 an14 cd14 ct14), sl14⟩)
    (c14 : PySem.W.codeIn K cd14 "parse_expression" = true)
    (k14 : PySem.W.keepIn K (.ref f14) = true)
    (a15 : PySem.W.nsIn K mainGlobals "_law_cell" = some (some (.ref f15)))
    (l15 : K.lookup f15 = some ⟨oc15, od15, .func (PySem.W.fnOf "_law_cell" "_law_cell" (defArgs s__law_cell) (defBody s__law_cell) (defScope s__law_cell) .none kV15 dc15 pm15 an15 cd15 ct15), sl15⟩)
    (c15 : PySem.W.codeIn K cd15 "_law_cell" = true)
    (k15 : PySem.W.keepIn K (.ref f15) = true)
    (a16 : PySem.W.nsIn K mainGlobals "_law_parsed" = some (some (.ref f16)))
    (l16 : K.lookup f16 = some ⟨oc16, od16, .func (PySem.W.fnOf "_law_parsed" "_law_parsed" (defArgs s__law_parsed) (defBody s__law_parsed) (defScope s__law_parsed) .none kV16 dc16 pm16 an16 cd16 ct16), sl16⟩)
    (c16 : PySem.W.codeIn K cd16 "_law_parsed" = true)
    (k16 : PySem.W.keepIn K (.ref f16) = true)
    (a17 : PySem.W.nsIn K mainGlobals "_law_case" = some (some (.ref f17)))
    (l17 : K.lookup f17 = some ⟨oc17, od17, .func (PySem.W.fnOf "_law_case" "_law_case" (defArgs s__law_case) (defBody s__law_case) (defScope s__law_case) .none kV17 dc17 pm17 an17 cd17 ct17), sl17⟩)
    (c17 : PySem.W.codeIn K cd17 "_law_case" = true)
    (k17 : PySem.W.keepIn K (.ref f17) = true)
    (a18 : PySem.W.nsIn K mainGlobals "law" = some (some (.ref f18)))
    (l18 : K.lookup f18 = some ⟨oc18, od18, .func (PySem.W.fnOf "law" "law" (defArgs s_law) (defBody s_law) (defScope s_law) .none kV18 dc18 pm18 an18 cd18 ct18), sl18⟩)
    (c18 : PySem.W.codeIn K cd18 "law" = true)
    (k18 : PySem.W.keepIn K (.ref f18) = true)
    (zb_abs : PySem.W.nsIn K mainGlobals "abs" = some none)
    (zb_all : PySem.W.nsIn K mainGlobals "all" = some none)
    (zb_int : PySem.W.nsIn K mainGlobals "int" = some none)
    (zb_isinstance : PySem.W.nsIn K mainGlobals "isinstance" = some none)
    (zb_len : PySem.W.nsIn K mainGlobals "len" = some none)
    (zb_list : PySem.W.nsIn K mainGlobals "list" = some none)
    (zb_tuple : PySem.W.nsIn K mainGlobals "tuple" = some none)
    (zc_IDENTIFIER_LENGTH : PySem.W.nsIn K mainGlobals "IDENTIFIER_LENGTH" = some (some (.int 12 tk_IDENTIFIER_LENGTH)))
    (zc_LETTERS : PySem.W.nsIn K mainGlobals "LETTERS" = some (some (.str (Str.ofString "abcdefghijklmnopqrstuvwxyz") tk_LETTERS)))
    (zc_IDENTIFIER_SIGNS : PySem.W.nsIn K mainGlobals "IDENTIFIER_SIGNS" = some (some (.str (Str.ofString "abcdefghijklmnopqrstuvwxyz0123456789_") tk_IDENTIFIER_SIGNS)))
    (zc_SIGNS : PySem.W.nsIn K mainGlobals "SIGNS" = some (some (.str (Str.ofString "(),+") tk_SIGNS)))
    (zc_QUOTE : PySem.W.nsIn K mainGlobals "QUOTE" = some (some (.str (Str.ofString "\"") tk_QUOTE)))
    (zc_BACKSLASH : PySem.W.nsIn K mainGlobals "BACKSLASH" = some (some (.str (Str.ofString "\\") tk_BACKSLASH)))
    (zc_WORD_ENDS : PySem.W.nsIn K mainGlobals "WORD_ENDS" = some (some (.str (Str.ofString " \"(),+") tk_WORD_ENDS)))
    (zc_MOST_CALLS : PySem.W.nsIn K mainGlobals "MOST_CALLS" = some (some (.int 6 tk_MOST_CALLS)))
    (zd_ESCAPES : PySem.W.nsIn K mainGlobals "ESCAPES" = some (some (.ref D_ESCAPES)))
    (zl_ESCAPES : K.lookup D_ESCAPES = some ⟨.type "dict", none, .dict es_ESCAPES n_ESCAPES, #[]⟩)
    (zo_ESCAPES : (D_ESCAPES == sysModules) = false)
    (zk_ESCAPES : PySem.W.KeysLit w.params es_ESCAPES.toList)
    (ze_ESCAPES : Kn.EntsAre es_ESCAPES.toList escF)
    (zd_FUNCTIONS : PySem.W.nsIn K mainGlobals "FUNCTIONS" = some (some (.ref D_FUNCTIONS)))
    (zl_FUNCTIONS : K.lookup D_FUNCTIONS = some ⟨.type "dict", none, .dict es_FUNCTIONS n_FUNCTIONS, #[]⟩)
    (zo_FUNCTIONS : (D_FUNCTIONS == sysModules) = false)
    (zk_FUNCTIONS : PySem.W.KeysLit w.params es_FUNCTIONS.toList)
    (ze_FUNCTIONS : Kn.EntsAre es_FUNCTIONS.toList funF)
    : ∃ fd : FuncData, (∀ (s : Shared) (v : Value), BindsTo s fd ⟨[v], []⟩ [("script", v)]) ∧ ∀ base : Heap, K.In base → base.Ns mainGlobals mg → FnOk l.prog w K mg base CX0 29 fa fd ["script"] (sp_law K) := by
  cases hfa.symm.trans (PySem.W.mg_of X G a18)
  have T : Tx mg := ⟨PySem.W.mg_none_of X G zb_abs, PySem.W.mg_none_of X G zb_all, PySem.W.mg_none_of X G zb_int, PySem.W.mg_none_of X G zb_isinstance, PySem.W.mg_none_of X G zb_len, PySem.W.mg_none_of X G zb_list, PySem.W.mg_none_of X G zb_tuple, ⟨_, PySem.W.mg_of X G zc_IDENTIFIER_LENGTH, ⟨_, rfl⟩⟩, ⟨_, PySem.W.mg_of X G zc_LETTERS, ⟨_, rfl⟩⟩, ⟨_, PySem.W.mg_of X G zc_IDENTIFIER_SIGNS, ⟨_, rfl⟩⟩, ⟨_, PySem.W.mg_of X G zc_SIGNS, ⟨_, rfl⟩⟩, ⟨_, PySem.W.mg_of X G zc_QUOTE, ⟨_, rfl⟩⟩, ⟨_, PySem.W.mg_of X G zc_BACKSLASH, ⟨_, rfl⟩⟩, ⟨_, PySem.W.mg_of X G zc_WORD_ENDS, ⟨_, rfl⟩⟩, ⟨_, PySem.W.mg_of X G zc_MOST_CALLS, ⟨_, rfl⟩⟩⟩
  have x_InvalidRecipe : Kn.Xc K X_InvalidRecipe XB := ⟨⟨⟨nm_InvalidRecipe, q_InvalidRecipe, N_InvalidRecipe_, bs_InvalidRecipe, _, sn_InvalidRecipe, sub_InvalidRecipe, ab_InvalidRecipe, col_InvalidRecipe, dd_InvalidRecipe, m0_InvalidRecipe, m1_InvalidRecipe, m2_InvalidRecipe, m3_InvalidRecipe, m5_InvalidRecipe, xL_InvalidRecipe, rfl⟩, xsa_InvalidRecipe, xex_InvalidRecipe, xty_InvalidRecipe, xkc_InvalidRecipe⟩, ⟨xga_InvalidRecipe, xgg_InvalidRecipe, xex_InvalidRecipe, xhd_InvalidRecipe, xcl_InvalidRecipe, xgs, xtk, xmr_InvalidRecipe⟩, ⟨xga_InvalidRecipe, xgg_InvalidRecipe, xex_InvalidRecipe, xhd_InvalidRecipe⟩, PySem.W.exm_ref xex_InvalidRecipe xhd_InvalidRecipe xty_InvalidRecipe xcc_InvalidRecipe, Kn.kit_ref bhd bty xkB_InvalidRecipe xcc_InvalidRecipe⟩
  have x_BadToken : Kn.Xc K X_BadToken XB := ⟨⟨⟨nm_BadToken, q_BadToken, N_BadToken_, bs_BadToken, _, sn_BadToken, sub_BadToken, ab_BadToken, col_BadToken, dd_BadToken, m0_BadToken, m1_BadToken, m2_BadToken, m3_BadToken, m5_BadToken, xL_BadToken, rfl⟩, xsa_BadToken, xex_BadToken, xty_BadToken, xkc_BadToken⟩, ⟨xga_BadToken, xgg_BadToken, xex_BadToken, xhd_BadToken, xcl_BadToken, xgs, xtk, xmr_BadToken⟩, ⟨xga_BadToken, xgg_BadToken, xex_BadToken, xhd_BadToken⟩, PySem.W.exm_ref xex_BadToken xhd_BadToken xty_BadToken xcc_BadToken, Kn.kit_ref bhd bty xkB_BadToken xcc_BadToken⟩
  let GX : Gx K mg := { c_BuildError := XB, g_BuildError := PySem.W.mg_of X G aB, b_BuildError := ⟨bsp, brd, bfi⟩, c_InvalidRecipe := X_InvalidRecipe, g_InvalidRecipe := PySem.W.mg_of X G xa_InvalidRecipe, x_InvalidRecipe := x_InvalidRecipe, n_InvalidRecipe_path := xnpath_InvalidRecipe, n_InvalidRecipe_line := xnline_InvalidRecipe, n_InvalidRecipe_column := xncolumn_InvalidRecipe, n_InvalidRecipe_reason := xnreason_InvalidRecipe, c_BadToken := X_BadToken, g_BadToken := PySem.W.mg_of X G xa_BadToken, x_BadToken := x_BadToken, n_BadToken_column := xncolumn_BadToken, n_BadToken_reason := xnreason_BadToken }
  have F0 := fun_mk (st := s_InvalidRecipe___init__) l0 c0 k0
  have b0 := F0.binds (ps := ["self", "path", "line", "column", "reason"]) fun _ _ _ _ _ _ us hl => match us, hl with | [_, _, _, _, _], _ => rfl
  have F1 := fun_mk (st := s_BadToken___init__) l1 c1 k1
  have b1 := F1.binds (ps := ["self", "column", "reason"]) fun _ _ _ _ _ _ us hl => match us, hl with | [_, _, _], _ => rfl
  have F2 := fun_mk (st := s__skip_spaces) l2 c2 k2
  have b2 := F2.binds (ps := ["line", "start"]) fun _ _ _ _ _ _ us hl => match us, hl with | [_, _], _ => rfl
  have F3 := fun_mk (st := s__string_part) l3 c3 k3
  have b3 := F3.binds (ps := ["path", "number", "line", "at"]) fun _ _ _ _ _ _ us hl => match us, hl with | [_, _, _, _], _ => rfl
  have F4 := fun_mk (st := s__string) l4 c4 k4
  have b4 := F4.binds (ps := ["path", "number", "line", "start"]) fun _ _ _ _ _ _ us hl => match us, hl with | [_, _, _, _], _ => rfl
  have F5 := fun_mk (st := s__token) l5 c5 k5
  have b5 := F5.binds (ps := ["path", "number", "line", "start"]) fun _ _ _ _ _ _ us hl => match us, hl with | [_, _, _, _], _ => rfl
  have F6 := fun_mk (st := s_scan_line) l6 c6 k6
  have b6 := F6.binds (ps := ["path", "number", "line"]) fun _ _ _ _ _ _ us hl => match us, hl with | [_, _, _], _ => rfl
  have F7 := fun_mk (st := s_is_identifier) l7 c7 k7
  have b7 := F7.binds (ps := ["value"]) fun _ _ _ _ _ _ us hl => match us, hl with | [_], _ => rfl
  have F8 := fun_mk (st := s__sign) l8 c8 k8
  have b8 := F8.binds (ps := ["tokens", "at"]) fun _ _ _ _ _ _ us hl => match us, hl with | [_, _], _ => rfl
  have F9 := fun_mk (st := s__check_there) l9 c9 k9
  have b9 := F9.binds (ps := ["tokens", "at"]) fun _ _ _ _ _ _ us hl => match us, hl with | [_, _], _ => rfl
  have F10 := fun_mk (st := s__check_behind) l10 c10 k10
  have b10 := F10.binds (ps := ["tokens", "at", "wanted"]) fun _ _ _ _ _ _ us hl => match us, hl with | [_, _, _], _ => rfl
  have F11 := fun_mk (st := s__call) l11 c11 k11
  have b11 := F11.binds (ps := ["tokens", "at", "known", "depth"]) fun _ _ _ _ _ _ us hl => match us, hl with | [_, _, _, _], _ => rfl
  have F12 := fun_mk (st := s__term) l12 c12 k12
  have b12 := F12.binds (ps := ["tokens", "at", "known", "depth"]) fun _ _ _ _ _ _ us hl => match us, hl with | [_, _, _, _], _ => rfl
  have F13 := fun_mk (st := s__expression) l13 c13 k13
  have b13 := F13.binds (ps := ["tokens", "start", "known", "depth"]) fun _ _ _ _ _ _ us hl => match us, hl with | [_, _, _, _], _ => rfl
  have F14 := fun_mk (st := s_parse_expression) l14 c14 k14
  have b14 := F14.binds (ps := ["tokens", "start", "known"]) fun _ _ _ _ _ _ us hl => match us, hl with | [_, _, _], _ => rfl
  have F15 := fun_mk (st := s__law_cell) l15 c15 k15
  have b15 := F15.binds (ps := ["script", "k"]) fun _ _ _ _ _ _ us hl => match us, hl with | [_, _], _ => rfl
  have F16 := fun_mk (st := s__law_parsed) l16 c16 k16
  have b16 := F16.binds (ps := ["tokens"]) fun _ _ _ _ _ _ us hl => match us, hl with | [_], _ => rfl
  have F17 := fun_mk (st := s__law_case) l17 c17 k17
  have b17 := F17.binds (ps := ["kind", "size", "tail"]) fun _ _ _ _ _ _ us hl => match us, hl with | [_, _, _], _ => rfl
  have F18 := fun_mk (st := s_law) l18 c18 k18
  have b18 := F18.binds (ps := ["script"]) fun _ _ _ _ _ _ us hl => match us, hl with | [_], _ => rfl
  have W_ESCAPES : Kn.WD K w mg "ESCAPES" D_ESCAPES escF := Kn.wd_of (PySem.W.mg_of X G zd_ESCAPES) zl_ESCAPES zo_ESCAPES zk_ESCAPES ze_ESCAPES
  have W_FUNCTIONS : Kn.WD K w mg "FUNCTIONS" D_FUNCTIONS funF := Kn.wd_of (PySem.W.mg_of X G zd_FUNCTIONS) zl_FUNCTIONS zo_FUNCTIONS zk_FUNCTIONS ze_FUNCTIONS
  refine ⟨PySem.W.fnOf "law" "law" (defArgs s_law) (defBody s_law) (defScope s_law) .none kV18 dc18 pm18 an18 cd18 ct18, fun s v => .of_eq rfl, fun base _ _ => ?_⟩
  have Z_InvalidRecipe : Kn.Xk l.prog w K mg base 1 "InvalidRecipe" GX.c_InvalidRecipe (sp_I4 K) := ⟨x_InvalidRecipe.oe, _, _, _, a0, i0, ok_InvalidRecipe___init__ F0 T GX, b0, PySem.W.mg_of X G xa_InvalidRecipe⟩
  have Z_BadToken : Kn.Xk l.prog w K mg base 1 "BadToken" GX.c_BadToken (sp_I2 K) := ⟨x_BadToken.oe, _, _, _, a1, i1, ok_BadToken___init__ F1 T GX, b1, PySem.W.mg_of X G xa_BadToken⟩
  have C__skip_spaces : Kn.Cl l.prog w K mg base 1 "_skip_spaces" (sp__skip_spaces K) := Kn.cl_of (ok__skip_spaces F2 T GX) F2 (PySem.W.mg_of X G a2) b2
  have C__string_part : Kn.ClX l.prog w K mg base 3 "_string_part" (sp__string_part GX) := Kn.clX_of (ok__string_part F3 T GX Z_InvalidRecipe W_ESCAPES) F3 (PySem.W.mg_of X G a3) b3
  have C__string : Kn.ClX l.prog w K mg base 4 "_string" (sp__string GX) := Kn.clX_of (ok__string F4 T GX C__string_part Z_InvalidRecipe) F4 (PySem.W.mg_of X G a4) b4
  have C__token : Kn.ClX l.prog w K mg base 5 "_token" (sp__token GX) := Kn.clX_of (ok__token F5 T GX C__string) F5 (PySem.W.mg_of X G a5) b5
  have C_scan_line : Kn.ClX l.prog w K mg base 6 "scan_line" (sp_scan_line GX) := Kn.clX_of (ok_scan_line F6 T GX C__skip_spaces C__token) F6 (PySem.W.mg_of X G a6) b6
  have C_is_identifier : Kn.Cl l.prog w K mg base 1 "is_identifier" (sp_is_identifier K) := Kn.cl_of (ok_is_identifier F7 T GX) F7 (PySem.W.mg_of X G a7) b7
  have C__sign : Kn.Cl l.prog w K mg base 1 "_sign" (sp__sign K) := Kn.cl_of (ok__sign F8 T GX) F8 (PySem.W.mg_of X G a8) b8
  have C__check_there : Kn.ClX l.prog w K mg base 3 "_check_there" (sp__check_there GX) := Kn.clX_of (ok__check_there F9 T GX Z_BadToken) F9 (PySem.W.mg_of X G a9) b9
  have C__check_behind : Kn.ClX l.prog w K mg base 4 "_check_behind" (sp__check_behind GX) := Kn.clX_of (ok__check_behind F10 T GX C__check_there C__sign Z_BadToken) F10 (PySem.W.mg_of X G a10) b10
  have TW : ∀ n : Nat, ∃ lv : Nat, lv = 3 * n ∧ Kn.ClX l.prog w K mg base (lv + 5) "_expression" (sp__expression GX n) := fun n => by
    induction n with
    | zero => exact ⟨0, rfl, Kn.clX_of (ok__expression0 F13) F13 (PySem.W.mg_of X G a13) b13⟩
    | succ n ih =>
      obtain ⟨lv, hlv, C__expression⟩ := ih
      have C__call : Kn.ClX l.prog w K mg base (lv + 6) "_call" (sp__call GX n) := Kn.clX_of (ok__call F11 T GX C__sign C__check_behind C__expression Z_BadToken W_FUNCTIONS) F11 (PySem.W.mg_of X G a11) b11
      have C__term : Kn.ClX l.prog w K mg base (lv + 7) "_term" (sp__term GX n) := Kn.clX_of (ok__term F12 T GX C__check_there C__sign C_is_identifier C__call Z_BadToken) F12 (PySem.W.mg_of X G a12) b12
      exact ⟨lv + 3, by omega, Kn.clX_of (ok__expression F13 T GX C__term C__sign) F13 (PySem.W.mg_of X G a13) b13⟩
  have C__expression : Kn.ClX l.prog w K mg base 26 "_expression" (sp__expression GX 7) := by
    obtain ⟨lv, hlv, C⟩ := TW 7
    subst hlv
    exact C
  have C_parse_expression : Kn.ClX l.prog w K mg base 27 "parse_expression" (sp_parse_expression GX) := Kn.clX_of (ok_parse_expression F14 T GX C__expression) F14 (PySem.W.mg_of X G a14) b14
  have C__law_cell : Kn.Cl l.prog w K mg base 1 "_law_cell" (sp__law_cell K) := Kn.cl_of (ok__law_cell F15 T GX) F15 (PySem.W.mg_of X G a15) b15
  have C__law_parsed : Kn.Cl l.prog w K mg base 28 "_law_parsed" (sp__law_parsed GX) := Kn.cl_of (ok__law_parsed F16 T GX C_parse_expression) F16 (PySem.W.mg_of X G a16) b16
  have C__law_case : Kn.Cl l.prog w K mg base 1 "_law_case" (sp__law_case K) := Kn.cl_of (ok__law_case F17 T GX) F17 (PySem.W.mg_of X G a17) b17
  exact ok_law F18 T GX C__law_cell C__law_case C_scan_line C__law_parsed
end My
open PySem PySem.W PyProof.Rows
set_option maxHeartbeats 0 in
theorem PySem.Challenge.cw_kilnyard_k13_wrong_expressions_holds : PySem.Challenge.rw_kilnyard_k13_wrong_expressions.Holds := by
  w_on; o_law; k_head; (case hw => w_witness2)
  k_fill
  refine L2.walk_of (l := PySem.Challenge.rw_kilnyard_k13_wrong_expressions) (n := 63) (k := 29) (x := "script") (CX := fun _ => L2.CX0) (sp := fun w => My.sp_law _) rfl (by decide) rfl ⟨rfl, by decide, by decide⟩ (fun w h Y => PySem.W.kIn_of Y) ?F (fun _ _ a ns hl _ hS => ⟨a, ns, rfl, ⟨hS, hl⟩, fun _ _ => rfl⟩) (fun _ _ _ _ _ h => h)
  case F =>
    intro w mg fa h KX G hmg
    refine' My.all_mk KX G hmg ?aB ?bsp ?brd ?bfi ?bhd ?bty ?xgs ?xtk ?xa_InvalidRecipe ?xL_InvalidRecipe ?xsa_InvalidRecipe ?xex_InvalidRecipe ?xty_InvalidRecipe ?xkc_InvalidRecipe ?xnpath_InvalidRecipe ?xnline_InvalidRecipe ?xncolumn_InvalidRecipe ?xnreason_InvalidRecipe ?xga_InvalidRecipe ?xgg_InvalidRecipe ?xhd_InvalidRecipe ?xcl_InvalidRecipe ?xmr_InvalidRecipe ?xcc_InvalidRecipe ?xkB_InvalidRecipe ?xa_BadToken ?xL_BadToken ?xsa_BadToken ?xex_BadToken ?xty_BadToken ?xkc_BadToken ?xncolumn_BadToken ?xnreason_BadToken ?xga_BadToken ?xgg_BadToken ?xhd_BadToken ?xcl_BadToken ?xmr_BadToken ?xcc_BadToken ?xkB_BadToken ?a0 ?i0 ?l0 ?c0 ?k0 ?a1 ?i1 ?l1 ?c1 ?k1 ?a2 ?l2 ?c2 ?k2 ?a3 ?l3 ?c3 ?k3 ?a4 ?l4 ?c4 ?k4 ?a5 ?l5 ?c5 ?k5 ?a6 ?l6 ?c6 ?k6 ?a7 ?l7 ?c7 ?k7 ?a8 ?l8 ?c8 ?k8 ?a9 ?l9 ?c9 ?k9 ?a10 ?l10 ?c10 ?k10 ?a11 ?l11 ?c11 ?k11 ?a12 ?l12 ?c12 ?k12 ?a13 ?l13 ?c13 ?k13 ?a14 ?l14 ?c14 ?k14 ?a15 ?l15 ?c15 ?k15 ?a16 ?l16 ?c16 ?k16 ?a17 ?l17 ?c17 ?k17 ?a18 ?l18 ?c18 ?k18 ?zb_abs ?zb_all ?zb_int ?zb_isinstance ?zb_len ?zb_list ?zb_tuple ?zc_IDENTIFIER_LENGTH ?zc_LETTERS ?zc_IDENTIFIER_SIGNS ?zc_SIGNS ?zc_QUOTE ?zc_BACKSLASH ?zc_WORD_ENDS ?zc_MOST_CALLS ?zd_ESCAPES ?zl_ESCAPES ?zo_ESCAPES ?zk_ESCAPES ?ze_ESCAPES ?zd_FUNCTIONS ?zl_FUNCTIONS ?zo_FUNCTIONS ?zk_FUNCTIONS ?ze_FUNCTIONS
    (case aB => k_is)
    (case bsp => k_is)
    (case brd => k_is)
    (case bfi => k_is)
    (case bhd => k_is)
    (case bty => k_is)
    (case xgs => k_is)
    (case xtk => k_is)
    (case xa_InvalidRecipe => k_is)
    (case xL_InvalidRecipe => k_is)
    (case xsa_InvalidRecipe => k_is)
    (case xex_InvalidRecipe => k_is)
    (case xty_InvalidRecipe => k_is)
    (case xkc_InvalidRecipe => k_is)
    (case xnpath_InvalidRecipe => k_is)
    (case xnline_InvalidRecipe => k_is)
    (case xncolumn_InvalidRecipe => k_is)
    (case xnreason_InvalidRecipe => k_is)
    (case xga_InvalidRecipe => k_is)
    (case xgg_InvalidRecipe => k_is)
    (case xhd_InvalidRecipe => k_is)
    (case xcl_InvalidRecipe => k_is)
    (case xmr_InvalidRecipe => k_is)
    (case xcc_InvalidRecipe => first | rfl | k_is)
    (case xkB_InvalidRecipe => k_is)
    (case xa_BadToken => k_is)
    (case xL_BadToken => k_is)
    (case xsa_BadToken => k_is)
    (case xex_BadToken => k_is)
    (case xty_BadToken => k_is)
    (case xkc_BadToken => k_is)
    (case xncolumn_BadToken => k_is)
    (case xnreason_BadToken => k_is)
    (case xga_BadToken => k_is)
    (case xgg_BadToken => k_is)
    (case xhd_BadToken => k_is)
    (case xcl_BadToken => k_is)
    (case xmr_BadToken => k_is)
    (case xcc_BadToken => first | rfl | k_is)
    (case xkB_BadToken => k_is)
    (case a0 => k_is)
    (case i0 => k_is)
    (case l0 => k_is)
    (case c0 => k_is)
    (case k0 => k_is)
    (case a1 => k_is)
    (case i1 => k_is)
    (case l1 => k_is)
    (case c1 => k_is)
    (case k1 => k_is)
    (case a2 => k_is)
    (case l2 => k_is)
    (case c2 => k_is)
    (case k2 => k_is)
    (case a3 => k_is)
    (case l3 => k_is)
    (case c3 => k_is)
    (case k3 => k_is)
    (case a4 => k_is)
    (case l4 => k_is)
    (case c4 => k_is)
    (case k4 => k_is)
    (case a5 => k_is)
    (case l5 => k_is)
    (case c5 => k_is)
    (case k5 => k_is)
    (case a6 => k_is)
    (case l6 => k_is)
    (case c6 => k_is)
    (case k6 => k_is)
    (case a7 => k_is)
    (case l7 => k_is)
    (case c7 => k_is)
    (case k7 => k_is)
    (case a8 => k_is)
    (case l8 => k_is)
    (case c8 => k_is)
    (case k8 => k_is)
    (case a9 => k_is)
    (case l9 => k_is)
    (case c9 => k_is)
    (case k9 => k_is)
    (case a10 => k_is)
    (case l10 => k_is)
    (case c10 => k_is)
    (case k10 => k_is)
    (case a11 => k_is)
    (case l11 => k_is)
    (case c11 => k_is)
    (case k11 => k_is)
    (case a12 => k_is)
    (case l12 => k_is)
    (case c12 => k_is)
    (case k12 => k_is)
    (case a13 => k_is)
    (case l13 => k_is)
    (case c13 => k_is)
    (case k13 => k_is)
    (case a14 => k_is)
    (case l14 => k_is)
    (case c14 => k_is)
    (case k14 => k_is)
    (case a15 => k_is)
    (case l15 => k_is)
    (case c15 => k_is)
    (case k15 => k_is)
    (case a16 => k_is)
    (case l16 => k_is)
    (case c16 => k_is)
    (case k16 => k_is)
    (case a17 => k_is)
    (case l17 => k_is)
    (case c17 => k_is)
    (case k17 => k_is)
    (case a18 => k_is)
    (case l18 => k_is)
    (case c18 => k_is)
    (case k18 => k_is)
    (case zb_abs => k_is)
    (case zb_all => k_is)
    (case zb_int => k_is)
    (case zb_isinstance => k_is)
    (case zb_len => k_is)
    (case zb_list => k_is)
    (case zb_tuple => k_is)
    (case zc_IDENTIFIER_LENGTH => k_is)
    (case zc_LETTERS => k_is)
    (case zc_IDENTIFIER_SIGNS => k_is)
    (case zc_SIGNS => k_is)
    (case zc_QUOTE => k_is)
    (case zc_BACKSLASH => k_is)
    (case zc_WORD_ENDS => k_is)
    (case zc_MOST_CALLS => k_is)
    (case zd_ESCAPES => k_is)
    (case zl_ESCAPES => k_is)
    (case zo_ESCAPES => first | rfl | k_is)
    (case zk_ESCAPES => exact ⟨⟨_, _, rfl, rfl⟩, ⟨_, _, rfl, rfl⟩, ⟨_, _, rfl, rfl⟩, trivial⟩)
    (case ze_ESCAPES => exact .cons ⟨_, rfl⟩ ⟨_, rfl⟩ (.cons ⟨_, rfl⟩ ⟨_, rfl⟩ (.cons ⟨_, rfl⟩ ⟨_, rfl⟩ .nil)))
    (case zd_FUNCTIONS => k_is)
    (case zl_FUNCTIONS => k_is)
    (case zo_FUNCTIONS => first | rfl | k_is)
    (case zk_FUNCTIONS => exact ⟨⟨_, _, rfl, rfl⟩, ⟨_, _, rfl, rfl⟩, ⟨_, _, rfl, rfl⟩, ⟨_, _, rfl, rfl⟩, ⟨_, _, rfl, rfl⟩, ⟨_, _, rfl, rfl⟩, ⟨_, _, rfl, rfl⟩, ⟨_, _, rfl, rfl⟩, ⟨_, _, rfl, rfl⟩, ⟨_, _, rfl, rfl⟩, ⟨_, _, rfl, rfl⟩, ⟨_, _, rfl, rfl⟩, ⟨_, _, rfl, rfl⟩, trivial⟩)
    (case ze_FUNCTIONS => exact (.cons ⟨_, rfl⟩ ⟨_, rfl⟩ (.cons ⟨_, rfl⟩ ⟨_, rfl⟩ (.cons ⟨_, rfl⟩ ⟨_, rfl⟩ (.cons ⟨_, rfl⟩ ⟨_, rfl⟩ (.cons ⟨_, rfl⟩ ⟨_, rfl⟩ (.cons ⟨_, rfl⟩ ⟨_, rfl⟩ (.cons ⟨_, rfl⟩ ⟨_, rfl⟩ (.cons ⟨_, rfl⟩ ⟨_, rfl⟩ (.cons ⟨_, rfl⟩ ⟨_, rfl⟩ (.cons ⟨_, rfl⟩ ⟨_, rfl⟩ (.cons ⟨_, rfl⟩ ⟨_, rfl⟩ (.cons ⟨_, rfl⟩ ⟨_, rfl⟩ (.cons ⟨_, rfl⟩ ⟨_, rfl⟩ .nil))))))))))))))

