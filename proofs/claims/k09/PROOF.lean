import PyProof.Rows.All
import Wide.All
import OpenK.AllK
import Wide.FinOn
import HandS.Evl
import HandS.Codes
import HandS.Iter
import HandS.Dict
import HandS.Text
import HandS.Words
import HandS.Walk
import HandS.IsInst
import HandS.Steps
import HandS.More
import HandS.ReplaceList
import HandS.ReplaceLit
import HandS.Replace
import HandS.ExcInit
import HandS.ExcIs
import HandS.ExcField
import HandS.IntHex
import HandS.FStr
import KE.KExcIs
import KE.KxField
import HandS.WordsExc
import HandS.TryMany
import HandS.WordsDict
import HandS.StrMore
import PyProof.StrOps2
import PyProof.Rows.SortShellAny
import PySem.Challenge.RW_kilnyard_k09_full_trees
set_option Elab.async false
set_option linter.all false
set_option maxRecDepth 100000
set_option maxHeartbeats 4000000
/-! Kn: what all our proofs share: named relations, values, comprehensions, promises of pure defs. -/
namespace Kn
open PySem PySem.Spec PyProof.Rows L2 Evl SX

/-! ### relations with a name -/
def rAddStr : R2 := fun x y H Q => ∃ i j, x = .str i ∧ y = .str j ∧ i.length + j.length ≤ sizeLine ∧ Q (.str (i ++ j)) H
theorem op_addS {X : Cx} : OpR X (binaryOp .Add) rAddStr := op_add_str
def rLenStr : List V → Hp → VK → Prop := fun xs H Q => ∃ z, xs = [.str z] ∧ z.length ≤ sizeLine ∧ Q (.int z.length) H
theorem cr_lenStr {X : Cx} : CallR X (.builtin "len") rLenStr := call_len_str
theorem cr_lenSeq {X : Cx} : CallR X (.builtin "len") (rLenS X.K) := call_len_seq
def rOrd : List V → Hp → VK → Prop := fun xs H Q => ∃ x, xs = [.str x] ∧ x.length = 1 ∧ Q (.int (x.cps.getD 0 0 : Nat)) H
theorem cr_ord {X : Cx} : CallR X (.builtin "ord") rOrd := call_ord
def rInt1 : List V → Hp → VK → Prop := fun xs H Q => (∃ i, xs = [.int i] ∧ Q (.int i) H) ∨ ∃ k, xs = [.bl k] ∧ Q (.int (if k then 1 else 0)) H
theorem cr_int1 {X : Cx} : CallR X (.type "int") rInt1 := call_int1
def rAbs : List V → Hp → VK → Prop := fun xs H Q => ∃ i, xs = [.int i] ∧ Q (.int (if i < 0 then -i else i)) H
theorem cr_abs {X : Cx} : CallR X (.builtin "abs") rAbs := call_abs
def rJoin (K : PySem.W.Frag) : V → List V → Hp → VK → Prop := fun x xs H Q => ∃ a p, ∃ ys : List Str, x = .str a ∧ xs = [.ref p] ∧ (SqL K H p (ys.map V.str) ∨ SqT K H p (ys.map V.str)) ∧ (ys.map (·.length)).sum + ys.length * a.length ≤ 16777216 ∧ Q (.str (Txt.join a ys)) H
theorem pe_joinN {X : Cx} {e : Expr} {to te : TE} (h : PE X e (tM1 (fun x xs H Q => ∃ a p, ∃ ys : List Str, x = .str a ∧ xs = [.ref p] ∧ (SqL X.K H p (ys.map V.str) ∨ SqT X.K H p (ys.map V.str)) ∧ (ys.map (·.length)).sum + ys.length * a.length ≤ 16777216 ∧ Q (.str (Txt.join a ys)) H) to te)) : PE X e (tM1 (rJoin X.K) to te) := h
theorem cr_isi {X : Cx} : CallR X (.builtin "isinstance") (rIsi X.K) := call_isi

/-! ### values -/
section
variable {K : PySem.W.Frag} {σ : L2.St} {H H' : Hp} {ta tb te tc : TE} {t u : TT} {x y z v : V}
theorem val_abs (i : Int) : (if i < 0 then -i else i) = (i.natAbs : Int) := by split <;> omega
theorem rc_abs {i : Int} : RC rAbs [.int i] H (.int (i.natAbs : Int)) := fun H1 _ _ q => ⟨i, rfl, by rw [val_abs]; exact q H1 (Ex.refl H1)⟩
theorem rc_int {i : Int} : RC rInt1 [.int i] H (.int i) := fun H1 _ _ q => .inl ⟨i, rfl, q H1 (Ex.refl H1)⟩
theorem rc_intB {b : Bool} : RC rInt1 [.bl b] H (.int (if b then 1 else 0)) := fun H1 _ _ q => .inr ⟨b, rfl, q H1 (Ex.refl H1)⟩
theorem rc_ord {c : Nat} : RC rOrd [.str (S [c])] H (.int (c : Int)) := fun H1 _ _ q => ⟨S [c], rfl, rfl, q H1 (Ex.refl H1)⟩
theorem rc_lenS {l : List Nat} (h : l.length ≤ 100000) : RC rLenStr [.str (S l)] H (.int (l.length : Int)) := fun H1 _ _ q => ⟨S l, rfl, by rw [S_len]; exact sz_of h, by rw [S_len]; exact q H1 (Ex.refl H1)⟩
theorem rv_addS {a b : List Nat} (h : a.length + b.length ≤ 100000) : RV rAddStr (.str (S a)) (.str (S b)) H (.str (S (a ++ b))) := fun H1 _ _ q =>
  ⟨S a, S b, rfl, rfl, by rw [S_len, S_len]; exact sz_of h, by rw [S_cat]; exact q H1 (Ex.refl H1)⟩
theorem rv_mod {i j : Int} (h : 0 < j) : RV (rI (fun _ j => 0 < j) fun i j => .int (i % j)) (.int i) (.int j) H (.int (i % j)) := rv_I h
theorem rv_fdiv {i j : Int} (h : CDiv i j) : RV (rI CDiv fun i j => .int (i / j)) (.int i) (.int j) H (.int (i / j)) := rv_I h
theorem rv_mul {i j : Int} (h : CMul i j) : RV (rI CMul fun i j => .int (i * j)) (.int i) (.int j) H (.int (i * j)) := rv_I h
theorem S1 (x : Str) {l : List Nat} (h : x.cps.toList = l) : x = S l := TL.ext_tl h
theorem ev_chain {r r' : R2} {k b : Bool} (ha : Ev ta σ H x) (hb : Ev tb σ H y) (hr : RV r x y H (.bl k)) (hc : Ev tc σ H z) (hr' : RV r' y z H (.bl b)) : Ev (tChain r r' ta tb tc) σ H (.bl (k && b)) := fun H1 e Q q =>
  ha H1 e _ fun H2 e2 => hb H2 (e.trans e2) _ fun H3 e3 => hr H3 ((e.trans e2).trans e3) _ fun H4 e4 => ⟨k, rfl, by
    have e14 := (e2.trans e3).trans e4
    cases k with
    | true =>
      show tc σ H4 fun w' H5 => r' y w' H5 Q
      exact hc H4 (e.trans e14) _ fun H5 e5 => hr' H5 ((e.trans e14).trans e5) Q fun H6 e6 => q H6 ((e14.trans e5).trans e6)
    | false =>
      show Q (.bl false) H4
      exact q H4 e14⟩
theorem ev_idxS {l : List Nat} {i : Int} {c : Nat} (ha : Ev ta σ H (.str (S l))) (hb : Ev tb σ H (.int i)) (h : l.length ≤ 100000) (hat : atI l i = some c) : Ev (tOp rIxS ta tb) σ H (.str (S [c])) := ev_op ha hb (rv_ixS (w := S l) (by rw [S_len]; exact h) hat)
theorem atI_nat' {α : Type} {xs : List α} {i : Int} {j : Nat} {v : α} (hi : i = (j : Int)) (h : xs[j]? = some v) : atI xs i = some v := by
  subst hi
  exact atI_nat h
theorem ev_join {s : List Nat} {ys : List (List Nat)} (hs : Ev ta σ H (.str (S s))) (hl : EvL tb σ H (ys.map fun l => V.str (S l))) (hz : (ys.map (·.length)).sum + ys.length * s.length ≤ 16777216) : Ev (tM1 (rJoin K) ta tb) σ H (.str (S (TL.joinL s ys))) := fun H1 e Q q =>
  hs H1 e _ fun H2 e2 => ⟨⟨_, rfl⟩, hl H2 (e.trans e2) _ fun p H3 _ e3 hp => ⟨S s, p, ys.map S, rfl, rfl, .inl (.inl (.inl (by rw [List.map_map]; exact hp))), by
    rw [SX.lens, List.length_map, S_len]
    exact hz, by
    rw [SX.join_S]
    exact q H3 (e2.trans e3)⟩⟩
theorem ev_slS {to tp : TO} {l : List Nat} {lo hi : Option Int} (h : Ev te σ H (.str (S l))) (h1 : EvO to σ H lo) (h2 : EvO tp σ H hi) (hz : l.length ≤ 100000) : Ev (tSl rSlS te to tp) σ H (.str (cutS (S l) lo hi)) := fun H1 e _ q =>
  h H1 e _ fun H2 e2 => h1 H2 (e.trans e2) _ fun H3 e3 => h2 H3 ((e.trans e2).trans e3) _ fun H4 e4 => ⟨S l, rfl, by rw [S_len]; exact sz_of hz, q H4 ((e2.trans e3).trans e4)⟩
theorem ev_isi {T : String} {c : String} {b : Bool} (ha : Ev ta σ H x) (ht : TyX K H x (.type T)) (hb : kitB T c = some b) (hm : ∀ H1, Ex H H1 → TyX K H1 x (.type T)) : Ev (tCB (rIsi K) (tCons ta (tCons (tC (.ty c)) tNil))) σ H (.bl b) := fun H1 e Q q =>
  ha H1 e _ fun H2 e2 => ⟨x, .ty c, .type T, .type c, b, rfl, .ty c, hm H2 (e.trans e2), kit_ty hb, q H2 e2⟩
theorem ev_all {τ : Type} {xs : List τ} {p : τ → Bool} (ha : EvL ta σ H (xs.map fun a => V.bl (p a))) : Ev (tCB (rAll K) (tCons ta tNil)) σ H (.bl (xs.all p)) := fun H1 e Q q =>
  ha H1 e _ fun a H2 _ e2 h2 => ⟨a, xs.map p, rfl, sq_of (by rw [List.map_map]; exact h2), by
    have hh : (xs.map p).all id = xs.all p := by rw [List.all_map]; rfl
    rw [hh]
    exact q H2 e2⟩

/-! ### comprehensions: no test, a new list of what each item gives -/
theorem given_all {α : Type} {xs : List α} {f : α → V} {d : V} : given xs.length (fun _ => true) (fun i => (xs[i]?.map f).getD d) = xs.map f := by
  unfold given
  rw [List.filter_eq_self.mpr (fun _ _ => rfl)]
  refine List.ext_getElem (by simp) fun i h1 h2 => ?_
  simp at h1 h2
  simp [h2]
theorem et_yes {H : Hp} : EvT tYes σ H true := fun H1 _ _ q => q H1 (Ex.refl H1)
theorem el_lcM {τ : Type} {a : Addr} {ns : List τ} {g f : τ → V} {tl : TE} {j : Nat} {vs : List Nat} (h : Ev tl σ H (.ref a)) (hx : SqL K H a (ns.map g)) (hz : ns.length ≤ 40000) (hw : ∀ x, wipe ((wipe σ vs).set j (some x)) vs = wipe σ vs)
    (he : ∀ n ∈ ns, ∀ H1, Ex H H1 → Ev te ((wipe σ vs).set j (some (g n))) H1 (f n)) : EvL (tLc (iList K tl) (gName j) tYes te vs) σ H (ns.map f) := by
  have k := el_lcL (K := K) (te := te) (t := tYes) (j := j) (vs := vs) (fun _ => true) (fun i => (ns[i]?.map f).getD .non) h hx (by rw [List.length_map]; exact hz) hw (fun _ _ H1 _ _ => et_yes) (fun i x H1 e hi _ => by
    rw [List.getElem?_map] at hi
    cases hn : ns[i]? with
    | none => rw [hn] at hi; cases hi
    | some n =>
      rw [hn] at hi
      cases Option.some.inj hi
      exact he n (List.mem_of_getElem? hn) H1 e)
  rw [List.length_map, given_all] at k
  exact k
theorem el_lcN {τ : Type} {ns : List τ} {g f : τ → V} {tl : TE} {j : Nat} {vs : List Nat} (h : EvL tl σ H (ns.map g)) (hz : ns.length ≤ 40000) (hw : ∀ x, wipe ((wipe σ vs).set j (some x)) vs = wipe σ vs)
    (he : ∀ n ∈ ns, ∀ H1, Ex H H1 → Ev te ((wipe σ vs).set j (some (g n))) H1 (f n)) : EvL (tLc (iList K tl) (gName j) tYes te vs) σ H (ns.map f) := by
  have k := el_lcNL (K := K) (te := te) (t := tYes) (j := j) (vs := vs) (fun _ => true) (fun i => (ns[i]?.map f).getD .non) h (by rw [List.length_map]; exact hz) hw (fun _ _ H1 _ _ => et_yes) (fun i x H1 e hi _ => by
    rw [List.getElem?_map] at hi
    cases hn : ns[i]? with
    | none => rw [hn] at hi; cases hi
    | some n =>
      rw [hn] at hi
      cases Option.some.inj hi
      exact he n (List.mem_of_getElem? hn) H1 e)
  rw [List.length_map, given_all] at k
  exact k
theorem el_lcR {n : Int} {f : Nat → V} {ta : TA} {j : Nat} {vs : List Nat} (h : EvA ta σ H [.int n]) (hn : 0 ≤ n ∧ n ≤ 40000) (hw : ∀ x, wipe ((wipe σ vs).set j (some x)) vs = wipe σ vs)
    (he : ∀ (i : Nat) H1, Ex H H1 → (i : Int) < n → Ev te ((wipe σ vs).set j (some (.int (i : Int)))) H1 (f i)) : EvL (tLc (iRng1 ta) (gName j) tYes te vs) σ H ((List.range n.toNat).map f) := by
  have k := el_lcR1 (te := te) (t := tYes) (j := j) (vs := vs) (fun _ => true) f h hn hw (fun _ H1 _ _ => et_yes) (fun i H1 e hi _ => he i H1 e hi)
  unfold given at k
  rw [List.filter_eq_self.mpr (fun _ _ => rfl)] at k
  exact k
/-- over the signs of a text -/
theorem el_lcS {l : List Nat} {f : Nat → V} {ts : TE} {j : Nat} {vs : List Nat} (h : Ev ts σ H (.str (S l))) (hz : l.length ≤ 40000) (hw : ∀ x, wipe ((wipe σ vs).set j (some x)) vs = wipe σ vs)
    (he : ∀ c ∈ l, ∀ H1, Ex H H1 → Ev te ((wipe σ vs).set j (some (.str (S [c])))) H1 (f c)) : EvL (tLc (iStr ts) (gName j) tYes te vs) σ H (l.map f) := fun H0 e Q q => h H0 e _ fun H1 e1 => ⟨S l, rfl, fun Dl hD => by
  have hl : (S l).cps.size = l.length := by simp [S]
  refine lc_it walk_str (Cw H1 (fun _ => true) (fun i => (l[i]?.map f).getD .non) Dl) ⟨hD, Ex.new hD, upd_same⟩ (fun _ _ _ _ => trivial) (fun i x H2 H3 hi p y => ?_) (fun H2 p => ?_)
  · obtain ⟨rfl, c, hc, rfl⟩ := y
    have hc' : l[i]? = some c := by simpa [S] using hc
    refine ⟨hw _, cw_turn p (by rw [hl] at hi; omega) et_yes (fun _ => ?_)⟩
    rw [hc']
    exact he c (List.mem_of_getElem? hc') H1 (e.trans e1)
  · rw [hl] at p
    have := p.2.2
    rw [given_all] at this
    exact q Dl H2 (fresh_back e1 p.1) (e1.trans p.2.1) this⟩
end

/-! ### promises of pure defs: a value, a new list -/
def Rt (H : Hp) (v : V) (Q : VK) : Prop := ∀ H1, Ex H H1 → Q v H1
def Rl (H : Hp) (xs : List V) (Q : VK) : Prop := ∀ p H1, H p = none → Ex H H1 → H1 p = some (.lst xs) → Q (.ref p) H1
def sp1 {α : Type} (A : α → List V) (pre : α → Hp → Prop) (val : α → V) : Sp := fun vs H Q _ => ∃ a, vs = A a ∧ pre a H ∧ Rt H (val a) Q
def sp2 {α β : Type} (A : α → β → List V) (pre : α → β → Hp → Prop) (val : α → β → V) : Sp := fun vs H Q _ => ∃ a b, vs = A a b ∧ pre a b H ∧ Rt H (val a b) Q
def sp3 {α β γ : Type} (A : α → β → γ → List V) (pre : α → β → γ → Hp → Prop) (val : α → β → γ → V) : Sp := fun vs H Q _ => ∃ a b c, vs = A a b c ∧ pre a b c H ∧ Rt H (val a b c) Q
def sl1 {α : Type} (A : α → List V) (pre : α → Hp → Prop) (val : α → List V) : Sp := fun vs H Q _ => ∃ a, vs = A a ∧ pre a H ∧ Rl H (val a) Q
def sl2 {α β : Type} (A : α → β → List V) (pre : α → β → Hp → Prop) (val : α → β → List V) : Sp := fun vs H Q _ => ∃ a b, vs = A a b ∧ pre a b H ∧ Rl H (val a b) Q
def sl3 {α β γ : Type} (A : α → β → γ → List V) (pre : α → β → γ → Hp → Prop) (val : α → β → γ → List V) : Sp := fun vs H Q _ => ∃ a b c, vs = A a b c ∧ pre a b c H ∧ Rl H (val a b c) Q
section
variable {K : PySem.W.Frag} {σ : L2.St} {H H' : Hp} {ta : TA} {E : XK} {α β γ : Type}
theorem ev_c1 {A : α → List V} {pre : α → Hp → Prop} {val : α → V} {a : α} (h : EvA ta σ H (A a)) (hp : ∀ H1, Ex H H1 → pre a H1) : Ev (tCall (sp1 A pre val) [] E ta) σ H (val a) := fun H1 e Q q =>
  h H1 e _ fun H2 e2 => ⟨a, List.append_nil _, hp H2 (e.trans e2), fun H3 e3 => q H3 (e2.trans e3)⟩
theorem ev_c2 {A : α → β → List V} {pre : α → β → Hp → Prop} {val : α → β → V} {a : α} {b : β} (h : EvA ta σ H (A a b)) (hp : ∀ H1, Ex H H1 → pre a b H1) : Ev (tCall (sp2 A pre val) [] E ta) σ H (val a b) := fun H1 e Q q =>
  h H1 e _ fun H2 e2 => ⟨a, b, List.append_nil _, hp H2 (e.trans e2), fun H3 e3 => q H3 (e2.trans e3)⟩
theorem ev_c3 {A : α → β → γ → List V} {pre : α → β → γ → Hp → Prop} {val : α → β → γ → V} {a : α} {b : β} {c : γ} (h : EvA ta σ H (A a b c)) (hp : ∀ H1, Ex H H1 → pre a b c H1) : Ev (tCall (sp3 A pre val) [] E ta) σ H (val a b c) := fun H1 e Q q =>
  h H1 e _ fun H2 e2 => ⟨a, b, c, List.append_nil _, hp H2 (e.trans e2), fun H3 e3 => q H3 (e2.trans e3)⟩
theorem el_c1 {A : α → List V} {pre : α → Hp → Prop} {val : α → List V} {a : α} (h : EvA ta σ H (A a)) (hp : ∀ H1, Ex H H1 → pre a H1) : EvL (tCall (sl1 A pre val) [] E ta) σ H (val a) := fun H1 e Q q =>
  h H1 e _ fun H2 e2 => ⟨a, List.append_nil _, hp H2 (e.trans e2), fun p H3 hp e3 h3 => q p H3 (fresh_back e2 hp) (e2.trans e3) h3⟩
theorem el_c2 {A : α → β → List V} {pre : α → β → Hp → Prop} {val : α → β → List V} {a : α} {b : β} (h : EvA ta σ H (A a b)) (hp : ∀ H1, Ex H H1 → pre a b H1) : EvL (tCall (sl2 A pre val) [] E ta) σ H (val a b) := fun H1 e Q q =>
  h H1 e _ fun H2 e2 => ⟨a, b, List.append_nil _, hp H2 (e.trans e2), fun p H3 hp e3 h3 => q p H3 (fresh_back e2 hp) (e2.trans e3) h3⟩
theorem el_c3 {A : α → β → γ → List V} {pre : α → β → γ → Hp → Prop} {val : α → β → γ → List V} {a : α} {b : β} {c : γ} (h : EvA ta σ H (A a b c)) (hp : ∀ H1, Ex H H1 → pre a b c H1) : EvL (tCall (sl3 A pre val) [] E ta) σ H (val a b c) := fun H1 e Q q =>
  h H1 e _ fun H2 e2 => ⟨a, b, c, List.append_nil _, hp H2 (e.trans e2), fun p H3 hp e3 h3 => q p H3 (fresh_back e2 hp) (e2.trans e3) h3⟩
/-- a call one of whose arguments is a new list: f([..]) -/
theorem ev_c1L {τ : Type} {te : TE} {A : Addr → List τ → List V} {pre : Addr → List τ → Hp → Prop} {val : Addr → List τ → V} {v : V} {xs : List V} (h : EvL te σ H xs) (ns : List τ) (hA : ∀ p, A p ns = [.ref p]) (hp : ∀ p H1, Ex H H1 → H1 p = some (.lst xs) → pre p ns H1) (hv : ∀ p, val p ns = v) :
    Ev (tCall (sp2 A pre val) [] E (tCons te tNil)) σ H v := fun H1 e Q q =>
  h H1 e _ fun p H2 hn e2 h2 => ⟨p, ns, by rw [hA]; rfl, hp p H2 (e.trans e2) h2, fun H3 e3 => by
    rw [hv]
    exact q H3 (e2.trans e3)⟩
end

/-! ### a def that may be called by its name -/
structure Cl (P : Program) (w : World) (K : PySem.W.Frag) (mg : Str → Option Value) (base : Heap) (k : Nat) (x : Str) (sp : Sp) : Prop where
  ex : ∃ (f : Addr) (fd : FuncData) (ps : List Str), FnOk P w K mg base CX0 k f fd ps sp ∧ mg x = some (.ref f) ∧ PySem.W.keepIn K (.ref f) = true ∧ Binds K fd ps []
section
variable {P : Program} {w : World} {K : PySem.W.Frag} {mg : Str → Option Value} {base : Heap}
theorem cl_of {k : Nat} {x : Str} {sp : Sp} {st : Stmt} {f : Addr} {fd : FuncData} {ps : List Str} (ok : FnOk P w K mg base CX0 k f fd ps sp) (F : Fun K x x st f fd) (g : mg x = some (.ref f)) (b : Binds K fd ps []) : Cl P w K mg base k x sp := ⟨f, fd, ps, ok, g, F.kp, b⟩
variable {X : Cx} {k j : Nat} {x : Str} {sp : Sp} {p pos : Pos} {e : Expr} {es : List Expr} {t : TA}
theorem pe_cl (c : Cl X.prog X.w X.K X.mg X.base k x sp) (hr : Room j X.A) (hk : k ≤ j) (hg : Gl X x) (ha : PA X (e :: es) t)
    (hdb : (x == ("__debug__" : Str)) = false := by decide) (he : starEach (e :: es) X.env = (false, eval e X.env) :: starEach es X.env := by rfl) (hpl : (backTo pos (starEach es X.env)).any (·.1) = false := by rfl) :
    PE X (.Call (.Name x p) (e :: es) [] pos) (tCall sp [] E0 t) := by
  obtain ⟨f, fd, ps, F, hm, kp, b⟩ := c.ex
  exact pe_call F (hr.mono hk) hg hm kp b .nil pass0 ha hdb he hpl
theorem pe_cl0 (c : Cl X.prog X.w X.K X.mg X.base k x sp) (hr : Room j X.A) (hk : k ≤ j) (hg : Gl X x)
    (hdb : (x == ("__debug__" : Str)) = false := by decide) :
    PE X (.Call (.Name x p) [] [] pos) (tCall sp [] E0 tNil) := by
  obtain ⟨f, fd, ps, F, hm, kp, b⟩ := c.ex
  exact pe_call0 F (hr.mono hk) hg hm kp b .nil pass0 hdb
end
end Kn
/-! ### values, step by step -/
namespace Kn
open PySem PySem.Spec PyProof.Rows L2 Evl SX
section
variable {H : Hp}
theorem rv_eqI {a b : Int} : RV rEq (.int a) (.int b) H (.bl (decide (a = b))) := fun H1 _ _ q => ⟨rfl, by
  have e : decide (V.int a = V.int b) = decide (a = b) := by simp
  rw [e]
  exact q H1 (Ex.refl H1)⟩
theorem rv_neI {a b : Int} : RV rNe (.int a) (.int b) H (.bl (!decide (a = b))) := fun H1 _ _ q => ⟨rfl, by
  have e : decide (V.int a = V.int b) = decide (a = b) := by simp
  rw [e]
  exact q H1 (Ex.refl H1)⟩
theorem dec_S {a b : List Nat} : decide (V.str (S a) = V.str (S b)) = decide (a = b) := by
  by_cases h : a = b
  · subst h
    simp
  · rw [decide_eq_false h, decide_eq_false (fun e => h (S_inj (V.str.inj e)))]
theorem rv_eqS {a b : List Nat} : RV rEq (.str (S a)) (.str (S b)) H (.bl (decide (a = b))) := fun H1 _ _ q => ⟨rfl, by
  rw [dec_S]
  exact q H1 (Ex.refl H1)⟩
theorem rv_neS {a b : List Nat} : RV rNe (.str (S a)) (.str (S b)) H (.bl (!decide (a = b))) := fun H1 _ _ q => ⟨rfl, by
  rw [dec_S]
  exact q H1 (Ex.refl H1)⟩
theorem rv_le {a b : Int} : RV (rI0 fun i j => .bl (decide (i ≤ j))) (.int a) (.int b) H (.bl (decide (a ≤ b))) := rv_I0
theorem rv_lt {a b : Int} : RV (rI0 fun i j => .bl (decide (i < j))) (.int a) (.int b) H (.bl (decide (a < b))) := rv_I0
theorem rv_inS {c : Nat} {l : List Nat} : RV rInS (.str (S [c])) (.str (S l)) H (.bl (decide (c ∈ l))) := fun H1 _ _ q => ⟨c, S l, rfl, rfl, q H1 (Ex.refl H1)⟩
theorem rv_ninS {c : Nat} {l : List Nat} : RV rNotInS (.str (S [c])) (.str (S l)) H (.bl (!decide (c ∈ l))) := fun H1 _ _ q => ⟨c, S l, rfl, rfl, q H1 (Ex.refl H1)⟩
end
end Kn
/-! ### lists cut, texts cut, constants -/
namespace Kn
open PySem PySem.Spec PyProof.Rows L2 Evl SX
theorem cut_nat {α : Type} (xs : List α) (a b : Nat) : (xs.drop (min a xs.length)).take (min b xs.length - min a xs.length) = (xs.drop a).take (b - a) := by
  by_cases h : a ≤ xs.length
  · have e : min a xs.length = a := Nat.min_eq_left h
    rw [e, List.take_eq_take_iff, List.length_drop]
    omega
  · have e : xs.drop a = [] := List.drop_of_length_le (by omega)
    have e2 : xs.drop (min a xs.length) = [] := List.drop_of_length_le (by omega)
    rw [e, e2, List.take_nil, List.take_nil]
theorem cutV_nat {xs : List V} (a b : Nat) : cutV xs (some (a : Int)) (some (b : Int)) = (xs.drop a).take (b - a) := by
  unfold cutV
  rw [HT.sIx_nat, HT.sIx_nat]
  exact cut_nat xs a b
theorem cutV_map {τ : Type} {g : τ → V} {ns : List τ} {i j : Int} (a b : Nat) (hi : i = (a : Int)) (hj : j = (b : Int)) : cutV (ns.map g) (some i) (some j) = ((ns.drop a).take (b - a)).map g := by
  subst hi hj
  rw [cutV_nat, List.map_take, List.map_drop]
theorem join_nil : ∀ ys : List (List Nat), TL.joinL [] ys = ys.flatten
  | [] => rfl
  | [p] => by rw [List.flatten_cons, List.flatten_nil, List.append_nil]; rfl
  | p :: q :: r => by
    show p ++ ([] ++ TL.joinL [] (q :: r)) = _
    rw [join_nil (q :: r), List.nil_append, List.flatten_cons (l := p)]
section
variable {K : PySem.W.Frag} {σ : L2.St} {H H' : Hp} {ta tb te tc : TE} {t u : TT} {x y z v : V}
theorem ev_cS {x : Str} {l : List Nat} (h : x.cps.toList = l) : Ev (tC (.str x)) σ H (.str (S l)) := by
  rw [S1 x h]
  exact ev_c
theorem el_slN {τ : Type} {g : τ → V} {ns : List τ} {i j : Int} {p : Addr} {to tp : TO} (h : Ev te σ H (.ref p)) (h1 : EvO to σ H (some i)) (h2 : EvO tp σ H (some j)) (hs : SqL K H p (ns.map g)) (a b : Nat) (hi : i = (a : Int)) (hj : j = (b : Int)) :
    EvL (tSl (rSlL K) te to tp) σ H (((ns.drop a).take (b - a)).map g) := by
  rw [← cutV_map a b hi hj]
  exact el_sl h h1 h2 hs
theorem ev_slTo {to tp : TO} {l : List Nat} {i : Int} (h : Ev te σ H (.str (S l))) (h1 : EvO to σ H none) (h2 : EvO tp σ H (some i)) (hz : l.length ≤ 100000) (hi : 0 ≤ i) : Ev (tSl rSlS te to tp) σ H (.str (S (l.take i.toNat))) := by
  have k := ev_slS h h1 h2 hz
  rw [C8.cutS_slice, slice_to hi] at k
  exact k
theorem ev_slFrom {to tp : TO} {l : List Nat} {i : Int} (h : Ev te σ H (.str (S l))) (h1 : EvO to σ H (some i)) (h2 : EvO tp σ H none) (hz : l.length ≤ 100000) (hi : 0 ≤ i) : Ev (tSl rSlS te to tp) σ H (.str (S (l.drop i.toNat))) := by
  have k := ev_slS h h1 h2 hz
  rw [C8.cutS_slice, slice_from hi] at k
  exact k
theorem ev_isiB {b : Bool} (ha : Ev ta σ H (.bl b)) : Ev (tCB (rIsi K) (tCons ta (tCons (tC (.ty "bool")) tNil))) σ H (.bl true) := ev_isi (T := "bool") ha (.base (.bl b)) (by decide +kernel) fun _ _ => .base (.bl b)
/-- == of two lists of data -/
theorem eqv_lists {xs ys : List PyData} (h : PyData.eqv (.list xs) (.list ys) = b) : PyData.eqv (.list xs) (.list ys) = b := h
end
end Kn
namespace Kn
open PySem PySem.Spec PyProof.Rows L2 Evl SX
section
variable {K : PySem.W.Frag} {σ : L2.St} {H H' : Hp} {ta tb te tc : TE} {t u : TT} {x y z v : V} {D : Ends} {tu tw tz : TS}
/-- an if whose two ways meet again -/
theorem q_ifM {b : Bool} (M : L2.St → Hp → Prop) (h : EvT t σ H b) (h1 : b = true → ∀ H1, Ex H H1 → ∀ N : L2.St → Hp → Prop, (∀ σ' H', M σ' H' → N σ' H') → tu { D with nx := N } σ H1)
    (h2 : b = false → ∀ H1, Ex H H1 → ∀ N : L2.St → Hp → Prop, (∀ σ' H', M σ' H' → N σ' H') → tw { D with nx := N } σ H1) (k : ∀ σ' H', M σ' H' → tz D σ' H') : tSeq (tIfS t tu tw) tz D σ H :=
  s_if (D := { D with nx := tz D }) h (fun hb H1 e => h1 hb H1 e _ k) (fun hb H1 e => h2 hb H1 e _ k)
theorem s_next (h : D.nx σ H) : tNext D σ H := h
theorem eqD_true {p q : Addr} {xs : List V} {ds : List PyData} (hp : SqL K H p xs) (hq : SqL K H q xs) (hd : ∀ H1, Ex H H1 → DpAll K H1 xs ds) (hs : SeqAt.shaped (.list ds) = true) (hl : PyData.eqv (.list ds) (.list ds) = true) : RV (rEqD K) (.ref p) (.ref q) H (.bl true) := fun H1 e Q k =>
  ⟨.list ds, .list ds, .lst (ex_l e hp) (hd H1 e), .lst (ex_l e hq) (hd H1 e), hs, hs, by rw [hl]; exact k H1 (Ex.refl H1)⟩
end
end Kn
/-! ### rpartition; joins; more of lists -/
namespace Kn
open PySem PySem.Spec PyProof.Rows L2 Evl SX
def rRpart : V → List V → Hp → VK → Prop := fun x xs H Q => ∃ a b, x = .str a ∧ xs = [.str b] ∧ (b.length == 0) = false ∧ a.length ≤ sizeLine ∧ ∀ p, H p = none → Q (.ref p) (upd H p (.tup [.str (Txt.rpartition a b).1, .str (Txt.rpartition a b).2.1, .str (Txt.rpartition a b).2.2]))
theorem mt_rpartition {X : Cx} : MtR X "str.rpartition" rRpart := by
  intro pins s σ H x xs v us Q I rx rs h
  obtain ⟨a, b, rfl, rfl, hb, hz, h⟩ := h
  obtain ⟨t, rfl⟩ := rx
  cases rs with
  | cons r1 rs =>
    cases rs
    obtain ⟨u, rfl⟩ := r1
    refine call_meets F.slot_str_rpartition (typeIs_str _ _ _) F.entry_str_rpartition (F.args_str_rpartition_2 _ _) (meets_str_rpartition a b t u hb hz) ?_
    unfold Txt.rpartition at h
    revert h
    cases Builtin.Str.lastOccurrence a b 0 a.length with
    | none => intro h; exact laid_parts I h
    | some i => intro h; exact laid_parts I h
section
variable {K : PySem.W.Frag} {σ : L2.St} {H H' : Hp} {ta tb te tc : TE} {t u : TT} {x y z v : V}
theorem ev_rpart0 {l m : List Nat} (ha : Ev ta σ H (.str (S l))) (hb : Ev tb σ H (.str (S m))) (hm : m ≠ []) (hl : l.length ≤ 100000) : Ev (tOp (rIxT K) (tM1 rRpart ta tb) (tC (.int 0))) σ H (.str (Txt.rpartition (S l) (S m)).1) := fun H1 e Q q =>
  ha H1 e _ fun H2 e2 => ⟨⟨_, rfl⟩, hb H2 (e.trans e2) _ fun H3 e3 => ⟨S l, S m, rfl, rfl, by
    rw [S_len]
    cases m with
    | nil => exact absurd rfl hm
    | cons a r => rfl, by rw [S_len]; exact sz_of hl, fun p hp =>
      ⟨p, _, 0, _, rfl, rfl, st_of upd_same, atI_nat (j := 0) rfl, q _ ((e2.trans e3).trans (Ex.new hp))⟩⟩⟩
theorem ev_joinV {s : List Nat} {ys : List (List Nat)} {p : Addr} (hs : Ev ta σ H (.str (S s))) (hl : Ev tb σ H (.ref p)) (hp : SqL K H p (ys.map fun l => V.str (S l))) (hz : (ys.map (·.length)).sum + ys.length * s.length ≤ 16777216) : Ev (tM1 (rJoin K) ta tb) σ H (.str (S (TL.joinL s ys))) := fun H1 e Q q =>
  hs H1 e _ fun H2 e2 => ⟨⟨_, rfl⟩, hl H2 (e.trans e2) _ fun H3 e3 => ⟨S s, p, ys.map S, rfl, rfl, .inl (by rw [List.map_map]; exact ex_l ((e.trans e2).trans e3) hp), by
    rw [SX.lens, List.length_map, S_len]
    exact hz, by
    rw [SX.join_S]
    exact q H3 (e2.trans e3)⟩⟩
theorem el_slTo {τ : Type} {g : τ → V} {ns : List τ} {j : Int} {p : Addr} {to tp : TO} (h : Ev te σ H (.ref p)) (h1 : EvO to σ H none) (h2 : EvO tp σ H (some j)) (hs : SqL K H p (ns.map g)) (b : Nat) (hj : j = (b : Int)) :
    EvL (tSl (rSlL K) te to tp) σ H ((ns.take b).map g) := by
  have e : cutV (ns.map g) none (some j) = (ns.take b).map g := by
    subst hj
    have k := cutV_nat (xs := ns.map g) 0 b
    unfold cutV at k ⊢
    rw [HT.sIx_none, HT.sIx_nat]
    rw [HT.sIx_nat, HT.sIx_nat, Nat.zero_min] at k
    rw [k, List.drop_zero, Nat.sub_zero, List.map_take]
  rw [← e]
  exact el_sl h h1 h2 hs
theorem ev_isiL {p : Addr} {xs : List V} (ha : Ev ta σ H (.ref p)) (h : H p = some (.lst xs)) : Ev (tCB (rIsi K) (tCons ta (tCons (tC (.ty "list")) tNil))) σ H (.bl true) := ev_isi (T := "list") ha (.base (.lst h)) (by decide +kernel) fun _ e => .base (.lst (e _ _ h))
theorem ev_isiS {l : Str} (ha : Ev ta σ H (.str l)) : Ev (tCB (rIsi K) (tCons ta (tCons (tC (.ty "str")) tNil))) σ H (.bl true) := ev_isi (T := "str") ha (.base (.str l)) (by decide +kernel) fun _ _ => .base (.str l)
theorem rv_ge {a b : Int} : RV (rI0 fun i j => .bl (decide (j ≤ i))) (.int a) (.int b) H (.bl (decide (b ≤ a))) := rv_I0
theorem rv_gt {a b : Int} : RV (rI0 fun i j => .bl (decide (j < i))) (.int a) (.int b) H (.bl (decide (b < a))) := rv_I0
theorem rv_pow {i j : Int} (h : CPow i j) : RV (rI CPow fun i j => .int (i ^ j.toNat)) (.int i) (.int j) H (.int (i ^ j.toNat)) := rv_I h
end
theorem joinL_snoc (s x : List Nat) : ∀ {l : List (List Nat)}, l ≠ [] → TL.joinL s (l ++ [x]) = TL.joinL s l ++ (s ++ x)
  | [], h => absurd rfl h
  | [p], _ => rfl
  | p :: q :: r, _ => by
    show p ++ (s ++ TL.joinL s ((q :: r) ++ [x])) = (p ++ (s ++ TL.joinL s (q :: r))) ++ (s ++ x)
    rw [joinL_snoc s x (List.cons_ne_nil q r)]
    simp only [List.append_assoc]
theorem joinL_ne {s p : List Nat} {r : List (List Nat)} (h : p ≠ []) : TL.joinL s (p :: r) ≠ [] := by
  cases r with
  | nil => exact h
  | cons q r =>
    intro z
    have : p ++ (s ++ TL.joinL s (q :: r)) = [] := z
    exact h (List.append_eq_nil_iff.mp this).1
theorem joinL_len (s : List Nat) : ∀ l : List (List Nat), (TL.joinL s l).length ≤ (l.map (·.length)).sum + l.length * s.length
  | [] => Nat.zero_le _
  | [p] => by
    show p.length ≤ p.length + 0 + 1 * s.length
    omega
  | p :: q :: r => by
    have ih := joinL_len s (q :: r)
    show (p ++ (s ++ TL.joinL s (q :: r))).length ≤ p.length + ((q :: r).map (·.length)).sum + ((q :: r).length + 1) * s.length
    rw [List.length_append, List.length_append, Nat.succ_mul]
    omega
theorem sum_le {l : List (List Nat)} {n : Nat} (h : ∀ p ∈ l, p.length ≤ n) : (l.map (·.length)).sum ≤ l.length * n := by
  induction l with
  | nil => simp
  | cons p r ih =>
    have h1 := h p List.mem_cons_self
    have h2 := ih fun q hq => h q (List.mem_cons_of_mem _ hq)
    rw [List.map_cons, List.sum_cons, List.length_cons, Nat.succ_mul]
    omega
theorem at_one {l : List Nat} {c i : Nat} : StrLaws.At (S l) (S [c]) (S l).length i ↔ l[i]? = some c := by
  rw [TL.at_iff (x := S l) (y := S [c]) (List.cons_ne_nil _ _)]
  show ((l.drop i).take 1 == [c]) = true ↔ l[i]? = some c
  rw [beq_iff_eq]
  constructor
  · intro h
    have e := congrArg (fun z : List Nat => z[0]?) h
    simpa using e
  · intro h
    obtain ⟨hi, e⟩ := List.getElem?_eq_some_iff.mp h
    rw [List.drop_eq_getElem_cons hi, e]
    rfl
theorem rpart_none {l : List Nat} {c : Nat} (h : c ∉ l) : (Txt.rpartition (S l) (S [c])).1 = S [] := by
  unfold Txt.rpartition
  rcases StrLaws.last_spec (S l) (S [c]) with ⟨h0, hn⟩ | ⟨i, h0, hi, hn⟩
  · rw [h0]
    rfl
  · exact absurd (List.mem_of_getElem? (at_one.mp hi)) h
theorem rpart_some {p q : List Nat} {c : Nat} (h : c ∉ q) : (Txt.rpartition (S (p ++ c :: q)) (S [c])).1 = S p := by
  have hp : (p ++ c :: q)[p.length]? = some c := by simp
  unfold Txt.rpartition
  rcases StrLaws.last_spec (S (p ++ c :: q)) (S [c]) with ⟨h0, hn⟩ | ⟨i, h0, hi, hn⟩
  · exact absurd (at_one.mpr hp) (hn _)
  · rw [h0]
    have e : i = p.length := by
      have h1 := at_one.mp hi
      rcases Nat.lt_trichotomy i p.length with z | z | z
      · exact absurd (at_one.mpr hp) (hn _ z)
      · exact z
      · rw [List.getElem?_append_right (by omega)] at h1
        obtain ⟨k, hk⟩ : ∃ k, i - p.length = k + 1 := ⟨i - p.length - 1, by omega⟩
        rw [hk, List.getElem?_cons_succ] at h1
        exact absurd (List.mem_of_getElem? h1) h
    subst e
    show PySem.Builtin.Str.strSub (S (p ++ c :: q)) 0 p.length = S p
    refine TL.ext_tl ?_
    rw [TL.tl_strSub]
    show ((p ++ c :: q).drop 0).take (p.length - 0) = p
    simp
end Kn
/-! ### rules that name the written part: for the elements of a comprehension -/
namespace Kn
open PySem PySem.Spec PyProof.Rows L2 Evl SX
section
variable {X : Cx} {K : PySem.W.Frag}
theorem sl_listK (h : X.K = K) : SlR X (rSlL K) := by subst h; exact sl_list
theorem sl_tupK (h : X.K = K) : SlR X (rSlT K) := by subst h; exact sl_tup
theorem ix_listK (h : X.K = K) : IxR X (rIxL K) := by subst h; exact ix_list
theorem ix_tupK (h : X.K = K) : IxR X (rIxT K) := by subst h; exact ix_tup
theorem cr_lenSeqK (h : X.K = K) : CallR X (.builtin "len") (rLenS K) := by subst h; exact cr_lenSeq
theorem cr_isiK (h : X.K = K) : CallR X (.builtin "isinstance") (rIsi K) := by subst h; exact cr_isi
theorem cr_allK (h : X.K = K) (hc : X.calm = true) : CallR X (.builtin "all") (rAll K) := by subst h; exact cr_all hc
theorem op_in_seqK (h : X.K = K) : OpR X (compareOp .In) (rIn K false) := by subst h; exact op_in_seq
theorem op_notIn_seqK (h : X.K = K) : OpR X (compareOp .NotIn) (rIn K true) := by subst h; exact op_notIn_seq
theorem pe_joinK {e : Expr} {to te : TE} (hK : X.K = K) (h : PE X e (tM1 (fun x xs H Q => ∃ a p, ∃ ys : List Str, x = .str a ∧ xs = [.ref p] ∧ (SqL X.K H p (ys.map V.str) ∨ SqT X.K H p (ys.map V.str)) ∧ (ys.map (·.length)).sum + ys.length * a.length ≤ 16777216 ∧ Q (.str (Txt.join a ys)) H) to te)) : PE X e (tM1 (rJoin K) to te) := by
  subst hK
  exact h
end
end Kn
/-! ### texts: split, count, startswith, replace; loops over signs -/
namespace Kn
open PySem PySem.Spec PyProof.Rows L2 Evl SX
def rSplit : V → List V → Hp → VK → Prop := fun x xs H Q => ∃ a b, x = .str a ∧ xs = [.str b] ∧ (b.length == 0) = false ∧ a.length + 2 ≤ sizeLine ∧ rNewStrs (Txt.split a b) H Q
theorem mt_split {X : Cx} : MtR X "str.split" rSplit := L2.mt_split
def rCount : V → List V → Hp → VK → Prop := fun x xs H Q => ∃ a b, x = .str a ∧ xs = [.str b] ∧ Q (.int (Txt.count a b)) H
theorem mt_count {X : Cx} : MtR X "str.count" rCount := L2.mt_count
def rStarts : V → List V → Hp → VK → Prop := fun x xs H Q => ∃ a b, x = .str a ∧ xs = [.str b] ∧ Q (.bl (Txt.startswith a b)) H
theorem mt_startswith {X : Cx} : MtR X "str.startswith" rStarts := L2.mt_startswith
def rEnds : V → List V → Hp → VK → Prop := fun x xs H Q => ∃ a b, x = .str a ∧ xs = [.str b] ∧ Q (.bl (Txt.endswith a b)) H
theorem mt_endswith {X : Cx} : MtR X "str.endswith" rEnds := L2.mt_endswith
/-- l cut at each c -/
def cut1 (c : Nat) (l : List Nat) : List (List Nat) := TL.spl [c] 0 [] l
theorem starts_one {l : List Nat} {c : Nat} : Txt.startswith (S l) (S [c]) = decide (l[0]? = some c) := by
  have h : StrLaws.At (S l) (S [c]) (S l).length 0 ↔ l[0]? = some c := at_one
  unfold Txt.startswith
  rw [Bool.eq_iff_iff, Bool.and_eq_true, decide_eq_true_eq, decide_eq_true_eq]
  exact h
theorem count_one {l : List Nat} {c : Nat} : Txt.count (S l) (S [c]) = cnt c l := count_is (S l) c
theorem spl_map {c : Nat} {f : Nat → Nat} (hc : ∀ d, f d = c ↔ d = c) : ∀ (l acc : List Nat), TL.spl [c] 0 (acc.map f) (l.map f) = (TL.spl [c] 0 acc l).map (List.map f)
  | [], acc => rfl
  | d :: r, acc => by
    by_cases e : d = c
    · have h1 : TL.pre [c] (d :: r) = true := by
        subst e
        exact TL.pre_self [d] r
      have h2 : TL.pre [c] (f d :: r.map f) = true := by
        have e2 := (hc d).mpr e
        rw [e2]
        exact TL.pre_self [c] (r.map f)
      rw [List.map_cons, TL.spl_hit h1, TL.spl_hit h2, List.map_cons]
      exact congrArg (fun z => acc.map f :: z) (spl_map hc r [])
    · have h1 : TL.pre [c] (d :: r) = false := TL.pre_of_head [] r e
      have h2 : TL.pre [c] (f d :: r.map f) = false := TL.pre_of_head [] _ fun z => e ((hc d).mp z)
      rw [List.map_cons, TL.spl_miss h1, TL.spl_miss h2, ← spl_map hc r (acc ++ [d]), List.map_append]
      rfl
theorem cut1_map {c : Nat} {f : Nat → Nat} (hc : ∀ d, f d = c ↔ d = c) (l : List Nat) : cut1 c (l.map f) = (cut1 c l).map (List.map f) := spl_map hc l []
/-- each sign but c is in a part -/
theorem spl_mem {c d : Nat} (hd : d ≠ c) : ∀ (l acc : List Nat), d ∈ acc ∨ d ∈ l → ∃ p ∈ TL.spl [c] 0 acc l, d ∈ p
  | [], acc, h => by
    rcases h with h | h
    · exact ⟨acc, List.mem_cons_self, h⟩
    · exact nomatch h
  | e :: r, acc, h => by
    by_cases ec : e = c
    · have h1 : TL.pre [c] (e :: r) = true := by
        subst ec
        exact TL.pre_self [e] r
      rw [TL.spl_hit h1]
      rcases h with h | h
      · exact ⟨acc, List.mem_cons_self, h⟩
      · rcases List.mem_cons.mp h with z | z
        · exact absurd (z.trans ec) hd
        · obtain ⟨p, hp, hm⟩ := spl_mem hd r [] (.inr z)
          exact ⟨p, List.mem_cons_of_mem _ hp, hm⟩
    · rw [TL.spl_miss (TL.pre_of_head [] r ec)]
      refine spl_mem hd r (acc ++ [e]) ?_
      rcases h with h | h
      · exact .inl (List.mem_append_left _ h)
      · rcases List.mem_cons.mp h with z | z
        · exact .inl (List.mem_append_right _ (by rw [z]; exact List.mem_cons_self))
        · exact .inr z
theorem cut1_mem {c d : Nat} (hd : d ≠ c) {l : List Nat} (h : d ∈ l) : ∃ p ∈ cut1 c l, d ∈ p := spl_mem hd l [] (.inr h)
theorem spl_bound (c : Nat) : ∀ (l acc : List Nat), (TL.spl [c] 0 acc l).length ≤ l.length + 1 ∧ ∀ p ∈ TL.spl [c] 0 acc l, p.length ≤ acc.length + l.length
  | [], acc => ⟨Nat.le_refl _, fun p hp => by rw [List.mem_singleton.mp hp]; exact Nat.le_add_right _ _⟩
  | e :: r, acc => by
    by_cases ec : e = c
    · have h1 : TL.pre [c] (e :: r) = true := by
        subst ec
        exact TL.pre_self [e] r
      have ih := spl_bound c r []
      rw [TL.spl_hit h1]
      refine ⟨Nat.succ_le_succ ih.1, fun p hp => ?_⟩
      rcases List.mem_cons.mp hp with z | z
      · rw [z]
        omega
      · have := ih.2 p z
        rw [List.length_cons]
        simp at this
        omega
    · have ih := spl_bound c r (acc ++ [e])
      rw [TL.spl_miss (TL.pre_of_head [] r ec)]
      refine ⟨by have := ih.1; rw [List.length_cons]; omega, fun p hp => ?_⟩
      have := ih.2 p hp
      rw [List.length_append] at this
      rw [List.length_cons]
      simp at this
      omega
theorem cut1_len (c : Nat) (l : List Nat) : (cut1 c l).length ≤ l.length + 1 := (spl_bound c l []).1
theorem cut1_part {c : Nat} {l p : List Nat} (h : p ∈ cut1 c l) : p.length ≤ l.length := by
  have := (spl_bound c l []).2 p h
  simpa using this
theorem repl_one {c d : Nat} : ∀ l : List Nat, StrLaws.replL [c] [d] l = l.map fun e => if e = c then d else e
  | [] => StrLaws.replL_nil
  | e :: r => by
    by_cases h : e = c
    · subst h
      rw [StrLaws.replL_hit (List.cons_ne_nil _ _) rfl, List.map_cons, if_pos rfl, ← repl_one r]
      rfl
    · rw [StrLaws.replL_miss (y := [c]) (show ¬ (e :: r).take [c].length = [c] from fun z => h (List.cons.inj (show e :: r.take 0 = [c] from z)).1), List.map_cons, if_neg h, repl_one r]
theorem replace_S {l : List Nat} {c d : Nat} : Txt.replace (S l) (S [c]) (S [d]) = S (l.map fun e => if e = c then d else e) := by
  refine TL.ext_tl ?_
  show (Txt.replace (S l) (S [c]) (S [d])).cps.toList = _
  exact (StrLaws.replace_list (show 1 ≤ (S [c]).length from Nat.le_refl 1)).trans (repl_one l)
section
variable {K : PySem.W.Frag} {σ : L2.St} {H H' : Hp} {ta tb te tc : TE} {t u : TT} {x y z v : V} {D : Ends} {tu tz : TS}
theorem el_split {l : List Nat} {c : Nat} (ha : Ev ta σ H (.str (S l))) (hb : Ev tb σ H (.str (S [c]))) (hc : c < 256) (hl : l.length ≤ 90000) : EvL (tM1 rSplit ta tb) σ H ((cut1 c l).map fun p => V.str (S p)) := fun H1 e Q q =>
  ha H1 e _ fun H2 e2 => ⟨⟨_, rfl⟩, hb H2 (e.trans e2) _ fun H3 e3 => ⟨S l, S [c], rfl, rfl, rfl, sz_of (by rw [S_len]; omega), fun p hp => by
    rw [SX.split_S (List.cons_ne_nil _ _) (by simp [hc]), List.map_map]
    exact q p _ (fresh_back (e2.trans e3) hp) ((e2.trans e3).trans (Ex.new hp)) upd_same⟩⟩
theorem ev_count {l : List Nat} {c : Nat} (ha : Ev ta σ H (.str (S l))) (hb : Ev tb σ H (.str (S [c]))) : Ev (tM1 rCount ta tb) σ H (.int (cnt c l)) := fun H1 e Q q =>
  ha H1 e _ fun H2 e2 => ⟨⟨_, rfl⟩, hb H2 (e.trans e2) _ fun H3 e3 => ⟨S l, S [c], rfl, rfl, by
    rw [count_one]
    exact q H3 (e2.trans e3)⟩⟩
theorem ev_starts {l : List Nat} {c : Nat} (ha : Ev ta σ H (.str (S l))) (hb : Ev tb σ H (.str (S [c]))) : Ev (tM1 rStarts ta tb) σ H (.bl (decide (l[0]? = some c))) := fun H1 e Q q =>
  ha H1 e _ fun H2 e2 => ⟨⟨_, rfl⟩, hb H2 (e.trans e2) _ fun H3 e3 => ⟨S l, S [c], rfl, rfl, by
    rw [starts_one]
    exact q H3 (e2.trans e3)⟩⟩
theorem ev_replC {l : List Nat} {s1 s2 : Str} {c d : Nat} (ha : Ev ta σ H (.str (S l))) (h1 : s1 = S [c]) (h2 : s2 = S [d]) (hl : l.length ≤ 100000) : Ev (CwR.tReplC ta s1 s2) σ H (.str (S (l.map fun e => if e = c then d else e))) := fun H1 e Q q => by
  subst h1 h2
  refine ha H1 e _ fun H2 e2 => ⟨S l, rfl, ?_, ?_⟩
  · rw [S_len, S_len]
    show l.length + (l.length + 1) * 1 ≤ 16777216
    omega
  · rw [replace_S]
    exact q H2 e2
theorem s_forS {l : List Nat} {ts : TE} {j : Nat} (h : Ev ts σ H (.str (S l))) (Pv : Nat → L2.St → Hp → Prop) (h0 : ∀ H1, Ex H H1 → Pv 0 σ H1)
    (hs : ∀ (i c : Nat) σ' H', l[i]? = some c → Pv i σ' H' → tu { D with nx := Pv (i + 1), ct := Pv (i + 1), bk := D.nx } (σ'.set j (some (.str (S [c])))) H') (hd : ∀ σ' H', Pv l.length σ' H' → D.nx σ' H') : tFor (iStr ts) (gName j) tu D σ H :=
  h H (Ex.refl H) _ fun H1 e => ⟨S l, rfl, for_it walk_str Pv (h0 H1 e) (fun _ _ _ _ _ => trivial) (fun i x σ' H2 H3 hi p y => by
    obtain ⟨rfl, c, hc, rfl⟩ := y
    have hc' : l[i]? = some c := by simpa [S] using hc
    exact hs i c σ' _ hc' p) (fun σ' H2 p => by
    have hl : (S l).cps.size = l.length := by simp [S]
    rw [hl] at p
    exact hd σ' H2 p)⟩
theorem q_forS {l : List Nat} {ts : TE} {j : Nat} (h : Ev ts σ H (.str (S l))) (Pv : Nat → L2.St → Hp → Prop) (h0 : ∀ H1, Ex H H1 → Pv 0 σ H1)
    (hs : ∀ (i c : Nat) σ' H', l[i]? = some c → Pv i σ' H' → tu { D with nx := Pv (i + 1), ct := Pv (i + 1), bk := tz D } (σ'.set j (some (.str (S [c])))) H') (hd : ∀ σ' H', Pv l.length σ' H' → tz D σ' H') : tSeq (tFor (iStr ts) (gName j) tu) tz D σ H :=
  s_forS (D := { D with nx := tz D }) h Pv h0 hs hd
end
/-! ### an expression behind which a token is out -/
section
variable {X : Cx} {a b e o : Expr} {ta tb te to : TE} {pos apos : Pos}
def PEb (X : Cx) (e : Expr) (t : TE) : Prop := ∀ (pins : List (Addr × Obj)) (s : Shared) (σ : L2.St) (H : Hp) (Q : VK), Inv X pins σ H s → t σ H Q → wpAny (model X.prog X.w) X.A (eval e X.env) (fun v s1 => 1 ≤ s1.toks ∧ EP X pins σ Q v s1) X.xe s
theorem keep_tok {α : Type} {t : Sem α} {Q : α → Shared → Prop} {E : Value → Shared → Prop} {P : Program} {w : World} {A : Around} {s : Shared} (h0 : 1 ≤ s.toks) (h : wpAny (model P w) A t Q E s) : wpAny (model P w) A t (fun a s' => 1 ≤ s'.toks ∧ Q a s') E s :=
  wpAny_mono (PySem.wpAny_toks h) (fun _ _ q => ⟨Nat.le_trans h0 q.1, q.2⟩) fun _ _ z => z.2
theorem peb_str {x : Str} {j : Nat} : PEb X (.Constant (.str x) j pos) (tC (.str x)) := fun _ s _ H _ I h => Calls.Constant_str ⟨by show 1 ≤ s.toks + 1; omega, .str x, H, I.tok _, ⟨_, rfl⟩, h⟩
theorem peb_m1 {id : String} {name : Str} {r : V → List V → Hp → VK → Prop} (slot : Slot "str" name id) (ty : typeOf (.builtin id) = pure (.type "method_descriptor")) (rule : MtR X id r) (ho : PE X o to) (he : PEb X e te)
    (hs : starEach [e] X.env = [(false, eval e X.env)] := by rfl) (hbase : attributeBase o name X.env (eval o X.env) = eval o X.env := by rfl) (hline : (apos.endLine == pos.line) = true := by rfl) :
    PEb X (.Call (.Attribute o name apos) [e] [] pos) (tM1 r to te) := by
  intro pins s σ H Q I h
  refine PySem.Call_method1 hbase hs hline (thn (ho.run pins s σ H _ I h) fun v s1 ⟨x, H1, I1, r1, q1⟩ => ?_)
  obtain ⟨⟨a, rfl⟩, q1⟩ := q1
  obtain ⟨t, rfl⟩ := _root_.id r1
  refine ⟨"str", _, F.plainAttrs_str, slot, ty, typeIs_str _ _ _, (fun _ e => nomatch e), Calls.callWith_builtin rfl (Calls.evalArgs_plain (Calls.spliced_cons ?_))⟩
  exact thn (he pins s1 σ H1 _ I1 q1) fun u s2 ⟨h2, y, H2, I2, r2, q2⟩ => Calls.spliced_nil (keep_tok h2 (rule pins s2 σ H2 _ [y] _ [u] Q I2 r1 (.cons r2 .nil) q2))
theorem peb_cmpR {op : CmpOp} {r : R2} (ho : OpR X (compareOp op) r) (ha : PEb X a ta) (hb : PE X b tb) (hm : behindInMarks op b = false) : PEb X (.Compare a [op] [b] pos) (tOp r ta tb) := by
  intro pins s σ H Q I h
  refine wpAny_Compare1 (thn (ha pins s σ H _ I h) fun v s1 ⟨h1, x, H1, I1, r1, q1⟩ => ?_) hm
  refine thn (keep_tok h1 (hb.run pins s1 σ H1 _ I1 q1)) fun u s2 ⟨h2, y, H2, I2, r2, q2⟩ => ?_
  exact keep_tok h2 (ho pins s2 σ H2 x y v u Q I2 r1 r2 q2)
theorem pe_andB (ha : PEb X a ta) (hb : L2.PET X b tb) : PE X (.BoolOp .And [a, b] pos) (tAndV ta tb) := by
  refine ⟨fun pins s σ H Q I h => ?_⟩
  refine BoolOp_and (thn (ha pins s σ H _ I h) fun v s1 ⟨h1, x, H1, I1, r1, q1⟩ => ?_)
  obtain ⟨c, rfl, q1⟩ := q1
  cases r1
  refine wpAny_truthy_bool ?_
  cases c with
  | true => exact BoolOp_one (hb pins s1 σ H1 Q h1 I1 q1)
  | false => exact ⟨.bl false, H1, I1, rfl, q1⟩
theorem pet_cl {k j : Nat} {x : Str} {sp : Sp} {p : Pos} {es : List Expr} {t : TA} (c : Cl X.prog X.w X.K X.mg X.base k x sp) (hr : Room j X.A) (hk : k ≤ j) (hg : Gl X x) (ha : L2.PAT X (e :: es) t)
    (hdb : (x == ("__debug__" : Str)) = false := by decide) (he : starEach (e :: es) X.env = (false, eval e X.env) :: starEach es X.env := by rfl) (hpl : (backTo pos (starEach es X.env)).any (·.1) = false := by rfl) :
    L2.PET X (.Call (.Name x p) (e :: es) [] pos) (tCall sp [] E0 t) := by
  intro pins s σ H Q h0 I h
  obtain ⟨f, fd, ps, F, hm, kp, b⟩ := c.ex
  refine wpAny_Call_Name_kw (ld_glob I hg hm ?_ hdb)
  refine PySem.W.callWith_K (h₀ := X.base) I.ok.mod.kin kp (thn (ha pos pins s σ H _ h0 I h) fun us s1 ⟨vs, H1, I1, r, q⟩ => ⟨I1.kIn, ?_⟩) he hpl
  exact run_fn F (hr.mono hk) b .nil pass0 I1 r q
end
end Kn
/-! ### methods, classes, dicts with text keys -/
namespace Kn
open PySem PySem.Spec PyProof.Rows L2 Evl SX
structure Mt (P : Program) (w : World) (K : PySem.W.Frag) (mg : Str → Option Value) (base : Heap) (k : Nat) (C : Addr) (m : Str) (sp : Sp) : Prop where
  ex : ∃ (f : Addr) (fd : FuncData) (ps : List Str), Cls K C ∧ Meth K C m f ∧ FnOk P w K mg base CX0 k f fd ps sp ∧ Binds K fd ps []
structure Mkr (P : Program) (w : World) (K : PySem.W.Frag) (mg : Str → Option Value) (base : Heap) (k : Nat) (x : Str) (C : Addr) (sp : Sp) : Prop where
  ex : ∃ (f : Addr) (fd : FuncData) (ps : List Str), Mk K C f ∧ FnOk P w K mg base CX0 k f fd ps sp ∧ mg x = some (.ref C) ∧ Binds K fd ps []
section
variable {X : Cx} {k j : Nat} {C : Addr} {x m : Str} {sp : Sp} {p pos apos : Pos} {e o : Expr} {es : List Expr} {ta : TE} {t : TA}
theorem pe_mt {pl : Sem Bool} (c : Mt X.prog X.w X.K X.mg X.base k C m sp) (hr : Room j X.A) (hk : k ≤ j) (he : PE X o ta) (ha : PA X (e :: es) t)
    (hst : starEach (e :: es) X.env = (false, eval e X.env) :: starEach es X.env := by rfl) (hpl : (backTo pos (starEach es X.env)).any (·.1) = false := by rfl)
    (ht : eval (.Call (.Attribute o m apos) (e :: es) [] pos) X.env = (do
      let ov ← eval o X.env
      standAt apos.atName
      let (f, first) ← holding [ov] (getMethod ov m pl)
      callWith pos f first (backTo pos (starEach (e :: es) X.env)) (backToKw pos (keywordEach [] X.env))) := by rfl) :
    PE X (.Call (.Attribute o m apos) (e :: es) [] pos) (tMeth C m sp [] E0 ta t) := by
  obtain ⟨f, fd, ps, hc, hm, F, b⟩ := c.ex
  exact pe_meth (pl := pl) he hc hm F (hr.mono hk) b .nil pass0 ha hst hpl ht
theorem pe_mt0 {pl : Sem Bool} (c : Mt X.prog X.w X.K X.mg X.base k C m sp) (hr : Room j X.A) (hk : k ≤ j) (he : PE X o ta)
    (ht : eval (.Call (.Attribute o m apos) [] [] pos) X.env = (do
      let ov ← eval o X.env
      standAt apos.atName
      let (f, first) ← holding [ov] (getMethod ov m pl)
      callWith pos f first (backTo pos (starEach [] X.env)) (backToKw pos (keywordEach [] X.env))) := by rfl) :
    PE X (.Call (.Attribute o m apos) [] [] pos) (tMeth C m sp [] E0 ta tNil) := by
  obtain ⟨f, fd, ps, hc, hm, F, b⟩ := c.ex
  exact pe_meth0 (pl := pl) he hc hm F (hr.mono hk) b .nil pass0 ht
theorem pe_mkr0 (c : Mkr X.prog X.w X.K X.mg X.base k x C sp) (hr : Room j X.A) (hk : k + 1 ≤ j) (hg : Gl X x) (hdb : (x == ("__debug__" : Str)) = false := by decide) :
    PE X (.Call (.Name x p) [] [] pos) (tMake C sp [] E0 tNil) := by
  obtain ⟨f, fd, ps, M, F, hm, b⟩ := c.ex
  exact pe_make0 M F (hr.mono hk) hg hm b .nil pass0 hdb
def rStrInt : List V → Hp → VK → Prop := fun xs H Q => ∃ i, xs = [.int i] ∧ i.natAbs.log2 < 1920 ∧ Q (.str (toString i)) H
theorem cr_strInt : CallR X (.type "str") rStrInt := call_str_int
def rSortD (K : PySem.W.Frag) : List V → Hp → VK → Prop := fun xs H Q => ∃ (a : Addr) (kvs : List (Key × V)) (ks : List Str), xs = [.ref a] ∧ Rd H a (.dK kvs) ∧ kvs.map (·.1) = ks.map Sum.inr ∧ ks.length < 64 ∧ ∀ ys p, ys.Perm ks → sortedS ys = true → H p = none → Q (.ref p) (upd H p (.lst (ys.map V.str)))
theorem cr_sortD (h : X.calm = true) : CallR X (.builtin "sorted") (rSortD X.K) := call_sortedD h
def rDictP (K : PySem.W.Frag) : List V → Hp → VK → Prop := fun xs H Q => ∃ (a : Addr) (ps : List Addr) (kvs : List (Key × V)), xs = [.ref a] ∧ SqL K H a (ps.map V.ref) ∧ Paired (fun p kv => SqT K H p [kV kv.1, kv.2]) ps kvs ∧ ∀ p, H p = none → Q (.ref p) (upd H p (.dK (mergeK [] kvs)))
theorem cr_dictP (h : X.calm = true) : CallR X (.type "dict") (rDictP X.K) := call_dictP h
end
section
variable {K : PySem.W.Frag} {σ : L2.St} {H H' : Hp} {ta tb td ty te tc tv : TE} {t u : TT} {x y z v : V} {D : Ends} {tu tw tz : TS} {C p d dx : Addr} {fs : List (Str × V)} {kvs : List (Key × V)} {k : List Nat}
theorem ev_fld {f : Str} (ha : Ev ta σ H (.ref p)) (ho : H p = some (.ins C dx fs)) (hc : Cls K C) (hn : NoAttr K C f) (hl : fs.lookup f = some v) : Ev (tFld K ta f) σ H v := fun H1 e Q q =>
  ha H1 e _ fun H2 e2 => ⟨p, C, dx, fs, v, rfl, (e.trans e2) _ _ ho, hc, hn, hl, q H2 e2⟩
theorem ev_meth {m : Str} {sp : Sp} {E : XK} {t : TA} {vs : List V} (ha : Ev ta σ H (.ref p)) (ho : H p = some (.ins C dx fs)) (hm : fs.lookup m = none) (h : EvA t σ H vs) (hs : SpV sp (.ref p :: vs) H z) : Ev (tMeth C m sp [] E ta t) σ H z := fun H1 e Q q =>
  ha H1 e _ fun H2 e2 => ⟨p, dx, fs, rfl, (e.trans e2) _ _ ho, hm, h H2 (e.trans e2) _ fun H3 e3 => by
    rw [List.append_nil]
    exact hs H3 ((e.trans e2).trans e3) Q (fun H4 e4 => q H4 ((e2.trans e3).trans e4)) E⟩
theorem ev_dget (h1 : Ev td σ H (.ref d)) (h2 : Ev ty σ H (.str (S k))) (hd : H d = some (.dK kvs)) (hv : valV kvs (Sum.inr (S k)) = some v) : Ev (tDGet td ty) σ H v := fun H1 e Q q =>
  h1 H1 e _ fun H2 e2 => h2 H2 (e.trans e2) _ fun H3 e3 => ⟨d, v, rfl, by
    have g := DGet.k (k := (Sum.inr (S k) : Key)) (((e.trans e2).trans e3) _ _ hd)
    rw [hv] at g
    exact g, q H3 (e2.trans e3)⟩
theorem ev_dget1 (h1 : Ev td σ H (.ref d)) (h2 : Ev ty σ H (.str (S k))) (hd : H d = some (.dK kvs)) : Ev (tDGet1 td ty) σ H ((valV kvs (Sum.inr (S k))).getD .non) := fun H1 e Q q =>
  h1 H1 e _ fun H2 e2 => ⟨d, rfl, .inl ⟨kvs, .inl ((e.trans e2) _ _ hd)⟩, h2 H2 (e.trans e2) _ fun H3 e3 => ⟨_, DGet.k (k := (Sum.inr (S k) : Key)) (((e.trans e2).trans e3) _ _ hd), q H3 (e2.trans e3)⟩⟩
theorem et_din (h2 : Ev ty σ H (.str (S k))) (h1 : Ev td σ H (.ref d)) (hd : H d = some (.dK kvs)) : EvT (tB (tDIn ty td)) σ H (valV kvs (Sum.inr (S k))).isSome := fun H1 e Q q =>
  h2 H1 e _ fun H2 e2 => h1 H2 (e.trans e2) _ fun H3 e3 => ⟨d, _, rfl, DGet.k (k := (Sum.inr (S k) : Key)) (((e.trans e2).trans e3) _ _ hd), _, rfl, q H3 (e2.trans e3)⟩
/-- d[k] = v -/
theorem s_dput (hv : Ev tv σ H v) (h1 : ∀ H1, Ex H H1 → Ev td σ H1 (.ref d)) (h2 : ∀ H1, Ex H H1 → Ev ty σ H1 (.str (S k))) (hd : H d = some (.dK kvs)) (hl : kvs.length < 100000) (q : ∀ H1, Ex H H1 → D.nx σ (upd H1 d (.dK (putK kvs (Sum.inr (S k)) v)))) : sDPut td ty tv D σ H :=
  hv H (Ex.refl H) _ fun H1 e1 => h1 H1 e1 H1 (Ex.refl H1) _ fun H2 e2 => h2 H2 (e1.trans e2) H2 (Ex.refl H2) _ fun H3 e3 => ⟨d, _, rfl, DPut.k (k := (Sum.inr (S k) : Key)) (((e1.trans e2).trans e3) _ _ hd) (sz_lt hl), q H3 ((e1.trans e2).trans e3)⟩
/-- d[k] = (a, ..), a new tuple -/
theorem s_dputU {xs : List V} (hv : EvU tv σ H xs) (h1 : ∀ H1, Ex H H1 → Ev td σ H1 (.ref d)) (h2 : ∀ H1, Ex H H1 → Ev ty σ H1 (.str (S k))) (hd : H d = some (.dK kvs)) (hl : kvs.length < 100000) (q : ∀ r H1, H r = none → Ex H H1 → H1 r = some (.tup xs) → D.nx σ (upd H1 d (.dK (putK kvs (Sum.inr (S k)) (.ref r))))) : sDPut td ty tv D σ H :=
  hv H (Ex.refl H) _ fun r H1 nr e1 hr => h1 H1 e1 H1 (Ex.refl H1) _ fun H2 e2 => h2 H2 (e1.trans e2) H2 (Ex.refl H2) _ fun H3 e3 => ⟨d, _, rfl, DPut.k (k := (Sum.inr (S k) : Key)) (((e1.trans e2).trans e3) _ _ hd) (sz_lt hl), q r H3 nr ((e1.trans e2).trans e3) (e3 _ _ (e2 _ _ hr))⟩
theorem et_isN (ha : Ev ta σ H x) : EvT (tTest (tOp rIsN ta (tC .non))) σ H (decide (x = .non)) := et_test (ev_op ha ev_c fun H1 _ Q q => ⟨rfl, q H1 (Ex.refl H1)⟩)
theorem et_notN (ha : Ev ta σ H x) : EvT (tTest (tOp rNotN ta (tC .non))) σ H (!decide (x = .non)) := et_test (ev_op ha ev_c fun H1 _ Q q => ⟨rfl, q H1 (Ex.refl H1)⟩)
theorem rv_ix0 {q : Addr} {xs : List V} {i : Nat} (h : SqT K H q xs) (hi : xs[i]? = some v) : RV (rIxT K) (.ref q) (.int (i : Int)) H v := rv_ixT h (atI_nat hi)
theorem ev_strInt {n : Nat} (ha : Ev ta σ H (.int (n : Int))) (hn : n < 1000) : Ev (tCB rStrInt (tCons ta tNil)) σ H (.str (S (TL.numL n))) := fun H1 e Q q =>
  ha H1 e _ fun H2 e2 => ⟨(n : Int), rfl, by
    rw [Int.natAbs_natCast]
    have : n.log2 < 10 := by
      by_cases h0 : n = 0
      · subst h0
        decide
      · exact (Nat.log2_lt h0).mpr (by omega)
    omega, by
    have z := num_S n
    rw [← z] at q
    exact q H2 e2⟩
end
end Kn
/-! ### lists of pairs with text keys: what a dict holds -/
namespace Kn
open PySem PySem.Spec PyProof.Rows L2 Evl SX
section
variable {α : Type}
def look (es : List (List Nat × α)) (k : List Nat) : Option α := (es.find? fun x => decide (x.1 = k)).map (·.2)
def put (es : List (List Nat × α)) (k : List Nat) (e : α) : List (List Nat × α) := if (es.any fun x => decide (x.1 = k)) = true then es.map (fun x => if x.1 = k then (x.1, e) else x) else es ++ [(k, e)]
theorem look_cons (x : List Nat × α) (r : List (List Nat × α)) (k : List Nat) : look (x :: r) k = if x.1 = k then some x.2 else look r k := by
  unfold look
  rw [List.find?_cons]
  by_cases h : x.1 = k
  · rw [decide_eq_true h, if_pos h]
    rfl
  · rw [decide_eq_false h, if_neg h]
theorem look_any (k : List Nat) : ∀ es : List (List Nat × α), (es.any fun x => decide (x.1 = k)) = (look es k).isSome
  | [] => rfl
  | x :: r => by
    rw [List.any_cons, look_cons, look_any k r]
    by_cases h : x.1 = k
    · rw [decide_eq_true h, if_pos h]
      rfl
    · rw [decide_eq_false h, if_neg h]
      rfl
theorem look_map (k j : List Nat) (e : α) : ∀ es : List (List Nat × α), look (es.map fun x => if x.1 = k then (x.1, e) else x) j = (look es j).map fun y => if j = k then e else y
  | [] => rfl
  | x :: r => by
    rw [List.map_cons, look_cons, look_cons, look_map k j e r]
    by_cases h : x.1 = k
    · rw [if_pos h]
      by_cases h2 : x.1 = j
      · rw [if_pos h2, if_pos h2, Option.map_some, if_pos (h2.symm.trans h)]
      · rw [if_neg h2, if_neg h2]
    · rw [if_neg h]
      by_cases h2 : x.1 = j
      · rw [if_pos h2, if_pos h2, Option.map_some, if_neg (fun z => h (h2.trans z))]
      · rw [if_neg h2, if_neg h2]
theorem look_snoc (k j : List Nat) (e : α) : ∀ es : List (List Nat × α), look es k = none → look (es ++ [(k, e)]) j = if j = k then some e else look es j
  | [], _ => by
    show look [(k, e)] j = _
    rw [look_cons]
    by_cases h : k = j
    · rw [if_pos h, if_pos h.symm]
    · rw [if_neg h, if_neg (fun z => h z.symm)]
  | x :: r, hn => by
    rw [look_cons] at hn
    by_cases h : x.1 = k
    · rw [if_pos h] at hn
      cases hn
    · rw [if_neg h] at hn
      rw [List.cons_append, look_cons, look_cons, look_snoc k j e r hn]
      by_cases h2 : x.1 = j
      · rw [if_pos h2, if_pos h2, if_neg (fun z => h (h2.trans z))]
      · rw [if_neg h2, if_neg h2]
theorem look_put (es : List (List Nat × α)) (k j : List Nat) (e : α) : look (put es k e) j = if j = k then some e else look es j := by
  unfold put
  rw [look_any]
  cases h : look es k with
  | none => exact look_snoc k j e es h
  | some y =>
    show look (es.map _) j = _
    rw [look_map]
    by_cases hj : j = k
    · subst hj
      rw [h, if_pos rfl, Option.map_some, if_pos rfl]
    · rw [if_neg hj]
      cases look es j with
      | none => rfl
      | some z => rw [Option.map_some, if_neg hj]
theorem put_len (es : List (List Nat × α)) (k : List Nat) (e : α) : (put es k e).length ≤ es.length + 1 := by
  unfold put
  split
  · rw [List.length_map]
    omega
  · rw [List.length_append]
    exact Nat.le_refl _
theorem look_mem {es : List (List Nat × α)} {k : List Nat} {e : α} (h : look es k = some e) : (k, e) ∈ es := by
  unfold look at h
  cases hf : es.find? fun x => decide (x.1 = k) with
  | none => rw [hf] at h; cases h
  | some x =>
    rw [hf] at h
    have h1 : x.1 = k := of_decide_eq_true (List.find?_some (p := fun x : List Nat × α => decide (x.1 = k)) hf)
    have h2 : x.2 = e := Option.some.inj h
    rw [← h1, ← h2]
    exact List.mem_of_find?_eq_some hf
theorem mem_look {es : List (List Nat × α)} {x : List Nat × α} (h : x ∈ es) : (look es x.1).isSome = true := by
  rw [← look_any, List.any_eq_true]
  exact ⟨x, h, decide_eq_true rfl⟩
theorem look_put_mem {es : List (List Nat × α)} {k : List Nat} {e : α} {x : List Nat × α} (h : x ∈ put es k e) : x ∈ es ∨ x.2 = e := by
  unfold put at h
  split at h
  · obtain ⟨y, hy, e2⟩ := List.mem_map.mp h
    by_cases h3 : y.1 = k
    · rw [if_pos h3] at e2
      exact .inr (by rw [← e2])
    · rw [if_neg h3] at e2
      exact .inl (by rw [← e2]; exact hy)
  · rcases List.mem_append.mp h with z | z
    · exact .inl z
    · exact .inr (by rw [List.mem_singleton.mp z])
end
/-- how pairs lie as a dict's: R tells which value stands for which thing -/
def Lies {α : Type} (R : α → V → Prop) (es : List (List Nat × α)) (kvs : List (Key × V)) : Prop := Paired (fun x (kv : Key × V) => kv.1 = Sum.inr (S x.1) ∧ R x.2 kv.2) es kvs
section
variable {α : Type} {R R' : α → V → Prop}
theorem key_eq {a b : List Nat} : ((Sum.inr (S a) : Key) = Sum.inr (S b)) ↔ a = b := ⟨fun h => S_inj (Sum.inr.inj h), fun h => by rw [h]⟩
theorem Lies.len {es : List (List Nat × α)} {kvs : List (Key × V)} (h : Lies R es kvs) : es.length = kvs.length := Paired.length h
theorem Lies.mono {es : List (List Nat × α)} {kvs : List (Key × V)} (h : Lies R es kvs) (f : ∀ a v, R a v → R' a v) : Lies R' es kvs := Paired.mapP h fun _ _ z => ⟨z.1, f _ _ z.2⟩
theorem Lies.look : ∀ {es : List (List Nat × α)} {kvs : List (Key × V)}, Lies R es kvs → ∀ k, (Kn.look es k = none ∧ valV kvs (Sum.inr (S k)) = none) ∨ ∃ e v, Kn.look es k = some e ∧ valV kvs (Sum.inr (S k)) = some v ∧ R e v
  | [], _, .nil, _ => .inl ⟨rfl, rfl⟩
  | x :: r, kv :: kvs, .cons h t, k => by
    rw [look_cons]
    by_cases hk : x.1 = k
    · rw [if_pos hk]
      refine .inr ⟨x.2, kv.2, rfl, valV_pos (h.1.trans (key_eq.mpr hk)), h.2⟩
    · rw [if_neg hk, valV_neg (fun z => hk (key_eq.mp (h.1.symm.trans z)))]
      exact Lies.look t k
theorem Lies.any {es : List (List Nat × α)} {kvs : List (Key × V)} (h : Lies R es kvs) (k : List Nat) : (kvs.any fun kv => decide (kv.1 = Sum.inr (S k))) = es.any fun x => decide (x.1 = k) := by
  rw [valV_any, look_any]
  rcases h.look k with ⟨a, b⟩ | ⟨e, v, a, b, _⟩
  · rw [a, b]
    rfl
  · rw [a, b]
    rfl
theorem Lies.mapped {k : List Nat} {e : α} {v : V} (hv : R e v) : ∀ {es : List (List Nat × α)} {kvs : List (Key × V)}, Lies R es kvs → Lies R (es.map fun x => if x.1 = k then (x.1, e) else x) (kvs.map fun kv => if kv.1 = (Sum.inr (S k) : Key) then (kv.1, v) else kv)
  | [], _, .nil => .nil
  | x :: r, kv :: kvs, .cons h t => by
    refine .cons ?_ (Lies.mapped hv t)
    by_cases hk : x.1 = k
    · dsimp only
      rw [if_pos hk, if_pos (h.1.trans (key_eq.mpr hk))]
      exact ⟨h.1, hv⟩
    · dsimp only
      rw [if_neg hk, if_neg (fun z => hk (key_eq.mp (h.1.symm.trans z)))]
      exact h
theorem Lies.snoc {k : List Nat} {e : α} {v : V} (hv : R e v) : ∀ {es : List (List Nat × α)} {kvs : List (Key × V)}, Lies R es kvs → Lies R (es ++ [(k, e)]) (kvs ++ [(Sum.inr (S k), v)])
  | [], _, .nil => .cons ⟨rfl, hv⟩ .nil
  | _ :: _, _ :: _, .cons h t => .cons h (Lies.snoc hv t)
theorem Lies.put {es : List (List Nat × α)} {kvs : List (Key × V)} {k : List Nat} {e : α} {v : V} (h : Lies R es kvs) (hv : R e v) : Lies R (Kn.put es k e) (putK kvs (Sum.inr (S k)) v) := by
  unfold Kn.put putK
  rw [h.any k]
  split
  · exact h.mapped hv
  · exact h.snoc hv
theorem Lies.keys : ∀ {es : List (List Nat × α)} {kvs : List (Key × V)}, Lies R es kvs → kvs.map (·.1) = (es.map fun x => S x.1).map Sum.inr
  | [], _, .nil => rfl
  | _ :: _, _ :: _, .cons h t => by
    rw [List.map_cons, List.map_cons, List.map_cons, h.1, Lies.keys t]
theorem Lies.get : ∀ {es : List (List Nat × α)} {kvs : List (Key × V)}, Lies R es kvs → ∀ (i : Nat) kv, kvs[i]? = some kv → ∃ x, es[i]? = some x ∧ kv.1 = Sum.inr (S x.1) ∧ R x.2 kv.2
  | [], _, .nil, _, _, h => by simp at h
  | x :: _, kv :: _, .cons h t, 0, kv', e => by
    cases Option.some.inj e
    exact ⟨x, rfl, h.1, h.2⟩
  | _ :: _, _ :: _, .cons h t, i + 1, kv', e => by
    obtain ⟨y, h1, h2⟩ := Lies.get t i kv' (by simpa using e)
    exact ⟨y, by simpa using h1, h2⟩
end
section
variable {K : PySem.W.Frag} {σ : L2.St} {H H' : Hp} {ta tb td ty te tc tv : TE} {t u : TT} {x y z v : V} {D : Ends} {tu tw tz : TS} {C p d dx : Addr} {fs : List (Str × V)} {kvs : List (Key × V)} {k : List Nat}
/-- y = [x for x in d.values() if t] -/
theorem s_lcVals {i j : Nat} {vs : List Nat} (f : Nat → Bool) (h1 : ∀ H1 : Hp, (∀ a o, a ≠ d → H a = some o → H1 a = some o) → Ev td σ H1 (.ref d)) (hd : H d = some (.dK kvs)) (hz : kvs.length ≤ 40000) (hw : ∀ x, wipe ((wipe σ vs).set j (some x)) vs = wipe σ vs)
    (ht : ∀ (i : Nat) (kv : Key × V) (H1 : Hp), (∀ a o, a ≠ d → H a = some o → H1 a = some o) → kvs[i]? = some kv → EvT t ((wipe σ vs).set j (some kv.2)) H1 (f i)) (he : ∀ (x : V) H1, Ev te ((wipe σ vs).set j (some x)) H1 x)
    (k : ∀ p H1, H p = none → Ex H H1 → H1 p = some (.lst (given kvs.length f fun i => (kvs[i]?.map (·.2)).getD .non)) → D.nx (σ.set i (some (.ref p))) H1) : tLock (tAsg (tLc (iVals td) (gName j) t te vs) (gName i)) D σ H := by
  refine ⟨d, .dK kvs, hd, trivial, fun od => ?_⟩
  have base : ∀ H1, Ex (upd H d (.frz od (.dK kvs))) H1 → ∀ a o, a ≠ d → H a = some o → H1 a = some o := fun H1 e a o ha h => e a o (by rw [upd_ne ha]; exact h)
  refine h1 _ (base _ (Ex.refl _)) _ (Ex.refl _) _ fun H1 e1 => ⟨d, od, kvs, rfl, e1 _ _ upd_same, fun Dl hD => ?_⟩
  refine lc_it walk_values (Cw H1 f (fun i => (kvs[i]?.map (·.2)).getD .non) Dl) ⟨hD, Ex.new hD, upd_same⟩ (fun i H2 _ q => q.2.1 _ _ (e1 _ _ upd_same)) (fun i x H2 H3 hi q y => ?_) (fun H2 q => ?_)
  · obtain ⟨rfl, ky, hy⟩ := y
    refine ⟨hw x, cw_turn q (by omega) (ht i (ky, x) H1 (base H1 e1) hy) (fun _ => ?_)⟩
    rw [hy]
    exact he x H1
  · have dn : H1 d = some (.frz od (.dK kvs)) := e1 _ _ upd_same
    have hd2 : H2 d = some (.frz od (.dK kvs)) := q.2.1 _ _ dn
    refine ⟨hd2, k Dl _ ?_ (fun a o h => ?_) ?_⟩
    · cases h : H Dl with
      | none => rfl
      | some o =>
        have ne : Dl ≠ d := fun z => by rw [z] at hD; rw [hD] at dn; cases dn
        have := e1 _ _ (by rw [upd_ne ne]; exact h)
        rw [hD] at this
        cases this
    · by_cases ha : a = d
      · rw [ha] at h ⊢
        rw [upd_same, ← hd, h]
      · rw [upd_ne ha]
        exact q.2.1 _ _ (base H1 e1 a o ha h)
    · have ne : Dl ≠ d := fun z => by rw [z] at hD; rw [hD] at dn; cases dn
      rw [upd_ne ne]
      exact q.2.2
/-- [(a, ..) for x in d if t]: new tuples -/
theorem ev_lcKeysT {j : Nat} {vs : List Nat} (f : Nat → Bool) (xs : Nat → List V) (h1 : ∀ H1, Ev td σ H1 (.ref d)) (hd : H d = some (.dK kvs)) (hz : kvs.length ≤ 40000) (hw : ∀ x, wipe ((wipe σ vs).set j (some x)) vs = wipe σ vs)
    (ht : ∀ (i : Nat) (kv : Key × V) (H1 : Hp) , kvs[i]? = some kv → EvT t ((wipe σ vs).set j (some (kV kv.1))) H1 (f i))
    (he : ∀ (i : Nat) (kv : Key × V) (H1 : Hp) (od : Obj), H1 d = some (.frz od (.dK kvs)) → kvs[i]? = some kv → f i = true → EvU te ((wipe σ vs).set j (some (kV kv.1))) H1 (xs i)) :
    ∀ H0, Ex H H0 → ∀ Q : VK, (∀ p H2 (ps : List Addr), H0 p = none → Ex H0 H2 → H2 p = some (.lst (ps.map V.ref)) → Paired (fun q v => H2 q = some (.tup v)) ps (((List.range kvs.length).filter f).map xs) → Q (.ref p) H2) → tLockE (tLc (iKeys td) (gName j) t te vs) σ H0 Q := by
  intro H0 e0 Q k
  have hd0 := e0 _ _ hd
  refine ⟨d, .dK kvs, hd0, trivial, fun od => ?_⟩
  refine h1 _ _ (Ex.refl _) _ fun H1 e1 => ⟨d, od, rfl, .inl ⟨kvs, e1 _ _ upd_same, fun Dl hD => ?_⟩⟩
  have dn : H1 d = some (.frz od (.dK kvs)) := e1 _ _ upd_same
  have ne : Dl ≠ d := fun z => by rw [z] at hD; rw [hD] at dn; cases dn
  refine lc_it walk_keys (fun i H' => Ex H1 H' ∧ ∃ ps : List Addr, H' Dl = some (.lst (ps.map V.ref)) ∧ ps.length ≤ i ∧ Paired (fun q v => H' q = some (.tup v)) ps (((List.range i).filter f).map xs)) ⟨Ex.new hD, [], upd_same, Nat.le_refl _, .nil⟩ (fun i H2 _ q => q.1 _ _ dn) (fun i x H2 H3 hi q y => ?_) (fun H2 q => ?_)
  · obtain ⟨rfl, ky, vv, hy, rfl⟩ := y
    obtain ⟨e2, ps, hl, hlen, hp⟩ := q
    refine ⟨hw _, ht i (ky, vv) _ hy _ (Ex.refl _) _ fun H3 e3 => ?_⟩
    cases hf : f i with
    | false =>
      show Ex H1 H3 ∧ _
      refine ⟨e2.trans e3, ps, e3 _ _ hl, by omega, ?_⟩
      rw [List.range_succ, List.filter_append, List.filter_cons, hf]
      show Paired _ ps (List.map xs (_ ++ []))
      rw [List.append_nil]
      exact Paired.mapP hp fun _ _ z => e3 _ _ z
    | true =>
      show te _ H3 fun y H4 => ∃ acc, _
      refine he i (ky, vv) H3 od (e3 _ _ (e2 _ _ dn)) hy hf H3 (Ex.refl _) _ fun r H4 nr e4 hr => ?_
      have hl4 : H4 Dl = some (.lst (ps.map V.ref)) := e4 _ _ (e3 _ _ hl)
      refine ⟨ps.map V.ref, hl4, sz_lt (by rw [List.length_map]; omega), Ex.mut ((e2.trans e3).trans e4) hD, ps ++ [r], ?_, ?_, ?_⟩
      · rw [List.map_append]
        exact upd_same
      · rw [List.length_append]
        show ps.length + 1 ≤ i + 1
        omega
      · have up : ∀ q w, H4 q = some (.tup w) → (upd H4 Dl (.lst (ps.map V.ref ++ [.ref r]))) q = some (.tup w) := fun q w hq => by
          rw [upd_ne (ne_of hq hl4 (by intro z; cases z))]
          exact hq
        rw [List.range_succ, List.filter_append, List.filter_cons, hf, List.map_append]
        have app : ∀ {F : Addr → List V → Prop} {as : List Addr} {bs : List (List V)} {a : Addr} {b : List V}, Paired F as bs → F a b → Paired F (as ++ [a]) (bs ++ [b]) := by
          intro F as bs a b hh hab
          induction hh with
          | nil => exact .cons hab .nil
          | cons h1 _ ih => exact .cons h1 ih
        exact app (Paired.mapP hp fun _ _ z => up _ _ (e4 _ _ (e3 _ _ z))) (up _ _ hr)
  · obtain ⟨e2, ps, hl, _, hp⟩ := q
    refine ⟨e2 _ _ dn, k Dl _ ps ?_ (fun a o h => ?_) ?_ (Paired.mapP hp fun q w z => ?_)⟩
    · cases h : H0 Dl with
      | none => rfl
      | some o =>
        have := e1 _ _ (by rw [upd_ne ne]; exact h)
        rw [hD] at this
        cases this
    · by_cases ha : a = d
      · rw [ha] at h ⊢
        rw [upd_same, ← hd0, h]
      · rw [upd_ne ha]
        exact e2 _ _ (e1 _ _ (by rw [upd_ne ha]; exact h))
    · rw [upd_ne ne]
      exact hl
    · have hdz : H2 d = some (.frz od (.dK kvs)) := e2 _ _ dn
      rw [upd_ne (ne_of z hdz (by intro w; cases w))]
      exact z
end
end Kn
namespace Kn
open PySem PySem.Spec PyProof.Rows L2 Evl SX
section
variable {K : PySem.W.Frag} {σ : L2.St} {H H' : Hp} {ta tb td ty te tc tv : TE} {t u : TT} {x y z v : V} {D : Ends} {tu tw tz : TS} {C p d dx : Addr} {fs : List (Str × V)} {kvs : List (Key × V)} {k : List Nat}
theorem q_dnew {i : Nat} (k : ∀ p, H p = none → tz D (σ.set i (some (.ref p))) (upd H p (.dK []))) : tSeq (tAsg tDNewK (gName i)) tz D σ H := k
theorem s_meth {m : Str} {sp : Sp} {E : XK} {tA : TA} {vs : List V} (ha : Ev ta σ H (.ref p)) (ho : H p = some (.ins C dx fs)) (hm : fs.lookup m = none) (h : EvA tA σ H vs) (k : ∀ H1, Ex H H1 → sp (.ref p :: vs) H1 (fun _ H2 => D.nx σ H2) E) : tDrop (tMeth C m sp [] E ta tA) D σ H :=
  ha H (Ex.refl H) _ fun H1 e1 => ⟨p, dx, fs, rfl, e1 _ _ ho, hm, h H1 e1 _ fun H2 e2 => by
    rw [List.append_nil]
    exact k H2 (e1.trans e2)⟩
theorem q_meth {m : Str} {sp : Sp} {E : XK} {tA : TA} {vs : List V} (ha : Ev ta σ H (.ref p)) (ho : H p = some (.ins C dx fs)) (hm : fs.lookup m = none) (h : EvA tA σ H vs) (k : ∀ H1, Ex H H1 → sp (.ref p :: vs) H1 (fun _ H2 => tz D σ H2) E) : tSeq (tDrop (tMeth C m sp [] E ta tA)) tz D σ H :=
  s_meth (D := { D with nx := tz D }) ha ho hm h k
/-- for k in sorted(d) -/
theorem q_forSD {ks : List (List Nat)} {j : Nat} (hv : Ev td σ H (.ref d)) (hd : H d = some (.dK kvs)) (hk : kvs.map (·.1) = (ks.map S).map Sum.inr) (hn : ks.length < 64) (Pv : List (List Nat) → Addr → Nat → L2.St → Hp → Prop)
    (h0 : ∀ ys p H1, ys.Perm ks → H p = none → Ex H H1 → H1 p = some (.lst (ys.map fun l => V.str (S l))) → Pv ys p 0 σ H1)
    (hl : ∀ ys p i σ' H', Pv ys p i σ' H' → SqL K H' p (ys.map fun l => V.str (S l)))
    (hs : ∀ ys p i l σ' H', ys.Perm ks → ys[i]? = some l → Pv ys p i σ' H' → tu { D with nx := Pv ys p (i + 1), ct := Pv ys p (i + 1), bk := tz D } (σ'.set j (some (.str (S l)))) H')
    (hend : ∀ ys p σ' H', ys.Perm ks → Pv ys p ys.length σ' H' → tz D σ' H') : tSeq (tFor (iList K (tCB (rSortD K) (tCons td tNil))) (gName j) tu) tz D σ H := by
  refine hv H (Ex.refl H) _ fun H1 e1 => ⟨d, kvs, ks.map S, rfl, .inl (e1 _ _ hd), hk, by rw [List.length_map]; exact hn, fun ys p hp _ hnew => ?_⟩
  have e : ys = (ys.map TL.tl).map S := by
    rw [List.map_map]
    exact (List.map_id' ys).symm.trans (List.map_congr_left fun x _ => (S_tl x).symm)
  have hperm : (ys.map TL.tl).Perm ks := by
    have h := hp.map TL.tl
    rw [map_S_tl] at h
    exact h
  have e2 : ys.map V.str = (ys.map TL.tl).map fun l => V.str (S l) := by
    rw [List.map_map]
    exact List.map_congr_left fun x _ => congrArg V.str (S_tl x).symm
  refine ⟨p, rfl, ⟨_, sq_of upd_same⟩, ?_⟩
  rw [e2]
  refine for_list (xs := (ys.map TL.tl).map fun l => V.str (S l)) (Pv (ys.map TL.tl) p) (h0 _ p _ hperm (fresh_back e1 hnew) (e1.trans (Ex.new hnew)) upd_same) (fun i σ' H' _ q => hl _ p i σ' H' q) (fun i x σ' H' hx q => ?_) (fun σ' H' q => ?_)
  · rw [List.getElem?_map] at hx
    cases h : (ys.map TL.tl)[i]? with
    | none => rw [h] at hx; cases hx
    | some l =>
      rw [h] at hx
      cases Option.some.inj hx
      exact hs _ p i l σ' H' hperm h q
  · rw [List.length_map] at q
    exact hend _ p σ' H' hperm q
end
/-! ### a dict made of pairs -/
def puts {α : Type} (acc L : List (List Nat × α)) : List (List Nat × α) := L.foldl (fun a x => put a x.1 x.2) acc
theorem look_puts {α : Type} {g : List Nat → Option α} : ∀ (L acc : List (List Nat × α)), (∀ x ∈ L, g x.1 = some x.2) → ∀ k, look (puts acc L) k = if k ∈ L.map (·.1) then g k else look acc k
  | [], acc, _, k => (if_neg (by simp)).symm
  | x :: r, acc, h, k => by
    show look (puts (put acc x.1 x.2) r) k = _
    rw [look_puts r _ (fun y hy => h y (List.mem_cons_of_mem _ hy)) k, look_put]
    by_cases h1 : k ∈ r.map (·.1)
    · rw [if_pos h1, if_pos (by rw [List.map_cons]; exact List.mem_cons_of_mem _ h1)]
    · rw [if_neg h1]
      by_cases h2 : k = x.1
      · rw [if_pos h2, if_pos (by rw [List.map_cons, h2]; exact List.mem_cons_self), h2, h x List.mem_cons_self]
      · rw [if_neg h2, if_neg (by rw [List.map_cons, List.mem_cons]; exact fun z => z.elim h2 h1)]
theorem puts_len {α : Type} : ∀ (L acc : List (List Nat × α)), (puts acc L).length ≤ acc.length + L.length
  | [], acc => Nat.le_refl _
  | x :: r, acc => by
    have h1 := puts_len r (put acc x.1 x.2)
    have h2 := put_len acc x.1 x.2
    show (puts (put acc x.1 x.2) r).length ≤ _
    rw [List.length_cons]
    omega
theorem Lies.puts {α : Type} {R : α → V → Prop} : ∀ {L : List (List Nat × α)} {kvs : List (Key × V)} {acc : List (List Nat × α)} {akvs : List (Key × V)}, Lies R L kvs → Lies R acc akvs → Lies R (Kn.puts acc L) (mergeK akvs kvs)
  | [], _, _, _, .nil, h => h
  | x :: r, kv :: kvs, acc, akvs, .cons h t, ha => by
    have h2 := ha.put (k := x.1) h.2
    rw [← h.1] at h2
    show Lies R (Kn.puts (Kn.put acc x.1 x.2) r) (mergeK (putK akvs kv.1 kv.2) kvs)
    exact Lies.puts (L := r) (kvs := kvs) t h2
theorem put_mem {α : Type} {es : List (List Nat × α)} {k : List Nat} {e : α} {x : List Nat × α} (h : x ∈ put es k e) : x ∈ es ∨ x = (k, e) := by
  unfold put at h
  split at h
  · obtain ⟨y, hy, e2⟩ := List.mem_map.mp h
    by_cases h3 : y.1 = k
    · rw [if_pos h3] at e2
      exact .inr (by rw [← e2, h3])
    · rw [if_neg h3] at e2
      exact .inl (by rw [← e2]; exact hy)
  · rcases List.mem_append.mp h with z | z
    · exact .inl z
    · exact .inr (List.mem_singleton.mp z)
theorem upd_none {H : Hp} {a b : Addr} {o : HO} (h : upd H a o b = none) : H b = none := by
  by_cases e : b = a
  · subst e
    rw [upd_same] at h
    cases h
  · rw [upd_ne e] at h
    exact h
theorem Paired.maps {α β γ : Type} {F : α → β → Prop} {f : γ → α} {g : γ → β} : ∀ (L : List γ), (∀ i ∈ L, F (f i) (g i)) → Paired F (L.map f) (L.map g)
  | [], _ => .nil
  | x :: r, h => .cons (h x List.mem_cons_self) (Paired.maps r fun i hi => h i (List.mem_cons_of_mem _ hi))
theorem ev_dgetF {σ : L2.St} {H : Hp} {td ty : TE} {d : Addr} {k : List Nat} {kvs : List (Key × V)} {v : V} {od : Obj} (h1 : Ev td σ H (.ref d)) (h2 : Ev ty σ H (.str (S k))) (hd : H d = some (.frz od (.dK kvs))) (hv : valV kvs (Sum.inr (S k)) = some v) : Ev (tDGet td ty) σ H v := fun H1 e Q q =>
  h1 H1 e _ fun H2 e2 => h2 H2 (e.trans e2) _ fun H3 e3 => ⟨d, v, rfl, .inl ⟨kvs, Sum.inr (S k), .inr ⟨od, ((e.trans e2).trans e3) _ _ hd⟩, rfl, hv.symm⟩, q H3 (e2.trans e3)⟩
end Kn

/-! ### own exceptions over an own base -/
namespace Kn
open PySem PySem.Spec PyProof.Rows L2 Evl SX
/-- what the base's __init__ asks of the own base class at B -/
structure BaseC (K : PySem.W.Frag) (B : Addr) : Prop where
  sp : PySem.W.specialIn K (.ref B) "__getattribute__" = some (some (.builtin "type.__getattribute__"))
  rd : PySem.W.readsIn K B (.type "type") = true
  fi : PySem.W.findCls K (.ref B) (.type "type") "__init__" = some (.val (.builtin "ValueError.__init__"))
theorem pe_beinit {X : Cx} {b : Str} {B : Addr} {e : Expr} {es : List Expr} {ta : TA} {p1 p2 pos : Pos} {pl : Sem Bool} (T : BaseC X.K B) (hg : Gl X b) (hm : X.mg b = some (.ref B)) (ha : PA X (e :: es) ta)
    (hdb : (b == ("__debug__" : Str)) = false := by decide)
    (hc : eval (.Call (.Attribute (.Name b p1) "__init__" p2) (e :: es) [] pos) X.env = (do
      let ov ← eval (.Name b p1) X.env
      standAt p2.atName
      let (f, first) ← holding [ov] (getMethod ov "__init__" pl)
      callWith pos f first (backTo pos (starEach (e :: es) X.env)) (backToKw pos (keywordEach [] X.env))) := by rfl)
    (he : starEach (e :: es) X.env = (false, eval e X.env) :: starEach es X.env := by rfl) (hpl : (backTo pos (starEach es X.env)).any (·.1) = false := by rfl) :
    PE X (.Call (.Attribute (.Name b p1) "__init__" p2) (e :: es) [] pos) (tVeI X.K ta) := by
  refine ⟨fun pins s σ H Q I h => ?_⟩
  refine PySem.W.methodCall_KW (ld_glob I hg hm ?_ hdb) hc
  refine PySem.W.method_cls I.kIn T.sp (PySem.W.cls_value I.kIn T.rd T.fi (by decide +kernel) ?_)
  show wpAny _ _ (callWith pos (Value.builtin "ValueError.__init__") [] (backTo pos (starEach (e :: es) X.env)) []) _ _ _
  refine PyProof.Rows.callWith_method1 (thn (ha.run pos pins _ σ H _ (I.tok _) h) fun us s1 ⟨vs, H1, I1, r1, a, C, ws, ev, hl, T, ea, q⟩ => ?_) he hpl
  subst ev
  cases r1 with
  | @cons _ u0 _ ur ra rw' =>
    obtain rfl : u0 = Value.ref a := ra
    have hlen : ur.length ≤ sizeLine := by
      rw [← Paired.length rw', sizeLine_eq]
      omega
    exact oinit_ok T I1 ea hlen fun s' J => ⟨.non, H1, J, rfl, q⟩
/-- isinstance(e, c), e the exception at a that the suite holds, with a dict -/
def rIsX (K : PySem.W.Frag) (a : Addr) (cls : Value) (d : Option Addr) : List V → Hp → VK → Prop := fun xs H Q => ∃ (D dd : Addr) (fs : List (Str × V)) (c : V) (cv : Value) (b : Bool),
  cls = .ref D ∧ d = some dd ∧ ExcC K D ∧ H dd = some (.xd fs) ∧ xs = [.ref a, c] ∧ (∀ u, RelV c u → u = cv) ∧ PySem.W.kitOne K (.ref D) cv = some b ∧ Q (.bl b) H
theorem cr_isX {X : Cx} {a : Addr} {oe : Obj} {cls : Value} {d : Option Addr} {pn : List (Addr × Obj)} (hz : Zc cls d oe) (hf : ∃ vs, oe.data = .fields vs) : CallR (X.suite a ((a, oe) :: pn)) (.builtin "isinstance") (rIsX X.K a cls d) := by
  intro pins s σ H xs us Q I r h
  obtain ⟨D, dd, fs, c, cv, b, rfl, rfl, C, hd, rfl, hcv, e, q⟩ := h
  obtain ⟨u0, u1, rfl, r0, r1⟩ := vals2 r
  obtain rfl : u0 = Value.ref a := r0
  obtain rfl := hcv _ r1
  obtain ⟨hget, _⟩ := I.pin (a, oe) (List.mem_append_left _ List.mem_cons_self)
  obtain ⟨vs, hv⟩ := hf
  obtain ⟨mA, hns, _⟩ := (I.hok dd _ hd : ObjOk X.prog X.w H s.heap dd (.xd fs))
  obtain ⟨od, ho, _⟩ := lookIn_ns hns
  have J : PySem.W.InstAt s.heap a oe D (some od) := ⟨hget, hz.1, by unfold PySem.W.notCls; rw [hv] <;> rfl, by rw [hz.2]; exact ho⟩
  obtain ⟨cd, hc, _⟩ := PySem.W.any_some C.hd
  exact PySem.W.kia_one (PySem.W.kitx_exc (by rw [hc]; rfl) C.hg C.hk C.hs C.ha C.hn C.ht C.hm) I.kIn J e (fun z => nomatch z) fun tk => ⟨.bl b, H, I.kept (t' := tk) fun _ _ z => z, rfl, q⟩
end Kn
/-! ### int(t, 2) -/
namespace Kn.Bi
open PySem PySem.Spec PyProof.Rows L2 PySem.NumText PySem.Calls
def IsBin (c : Nat) : Prop := c = 48 ∨ c = 49
theorem IsBin.hex {c : Nat} (h : IsBin c) : Hx.IsHex c := .inl (by unfold IsBin at h; omega)
theorem IsBin.lt {c : Nat} (h : IsBin c) : Hx.hv c < 2 := by
  rcases h with rfl | rfl <;> decide
def binNum (l : List Nat) : Nat := l.foldl (fun a c => a * 2 + Hx.hv c) 0
theorem step_bin {ds : Array Nat} {b : Bool} {c : Nat} (h : IsBin c) : PySem.NumText.step 2 (ds, b) c = some (ds.push (Hx.hv c), true) := by
  unfold PySem.NumText.step
  rw [if_neg (by rw [beq_iff_eq]; exact (Hx.hex_rng h.hex).2.2), Hx.digit_hex h.hex]
  exact if_pos h.lt
theorem fold_bin : ∀ (cs : List Nat) (ds : Array Nat), (∀ c ∈ cs, IsBin c) → cs.foldlM (PySem.NumText.step 2) (ds, true) = some (cs.foldl (fun acc c => acc.push (Hx.hv c)) ds, true)
  | [], _, _ => rfl
  | c :: cs, ds, h => by
    rw [List.foldlM_cons, step_bin (h c List.mem_cons_self)]
    exact fold_bin cs _ fun d hd => h d (List.mem_cons_of_mem _ hd)
theorem digits_bin {cs : List Nat} (h : ∀ c ∈ cs, IsBin c) (hne : cs ≠ []) : digits? 2 cs = some (cs.foldl (fun acc c => acc.push (Hx.hv c)) #[]) := by
  cases cs with
  | nil => exact absurd rfl hne
  | cons c cs =>
    unfold digits?
    rw [List.foldlM_cons, step_bin (h c List.mem_cons_self)]
    show (cs.foldlM (PySem.NumText.step 2) ((#[] : Array Nat).push (Hx.hv c), true)).bind _ = _
    rw [fold_bin cs _ fun d hd => h d (List.mem_cons_of_mem _ hd)]
    rfl
theorem push_bin : ∀ (cs : List Nat) (ds : Array Nat), (cs.foldl (fun acc c => acc.push (Hx.hv c)) ds).foldl (fun acc d => acc * 2 + d) 0 = cs.foldl (fun a c => a * 2 + Hx.hv c) (ds.foldl (fun acc d => acc * 2 + d) 0)
  | [], _ => rfl
  | c :: cs, ds => by
    rw [List.foldl_cons, push_bin cs, List.foldl_cons]
    congr 1
    simp
theorem based_bin : ∀ {cs : List Nat}, (∀ c ∈ cs, IsBin c) → based 2 cs = (2, false, cs)
  | [], _ => rfl
  | [a], h => by rcases h a List.mem_cons_self with rfl | rfl <;> rfl
  | a :: c :: r, h => by
    rcases h a List.mem_cons_self with rfl | rfl <;> rcases h c (List.mem_cons_of_mem _ List.mem_cons_self) with rfl | rfl <;> rfl
theorem read_bin {cs : List Nat} (h : ∀ c ∈ cs, IsBin c) (hne : cs ≠ []) : (int_private% "readNumeral") 0 2 cs = (int_private% "Numeral.value") ((binNum cs : Nat) : Int) := by
  have hx : ∀ c ∈ cs, Hx.IsHex c := fun c hc => (h c hc).hex
  have hr : ∀ c ∈ cs.reverse, Hx.IsHex c := fun c hc => hx c (List.mem_reverse.mp hc)
  refine (readNumeral_eq 0 2 cs).trans ?_
  rw [Hx.dropB hx, Hx.signH hx]
  show judge 0 false (based 2 cs).1 (based 2 cs).2.1 (digits? (based 2 cs).1 (((based 2 cs).2.2.reverse.dropWhile blank).reverse)) = _
  rw [based_bin h]
  show judge 0 false 2 false (digits? 2 ((cs.reverse.dropWhile blank).reverse)) = _
  rw [Hx.dropB hr, List.reverse_reverse, digits_bin h hne]
  show (int_private% "Numeral.value") (((cs.foldl (fun acc c => acc.push (Hx.hv c)) (#[] : Array Nat)).foldl (fun acc d => acc * 2 + d) 0 : Nat) : Int) = _
  have z : (#[] : Array Nat).foldl (fun acc d => acc * 2 + d) 0 = 0 := by first | rfl | simp
  rw [push_bin, z] <;> rfl
theorem gives_bin {x : PySem.Str} {u t : Tok} (hl : x.length ≤ 640) (h : ∀ c ∈ x.cps.toList, IsBin c) (hne : x.cps.toList ≠ []) :
    Gives (Builtin.«int.__new__» ⟨[.type "int", .str x u, .int 2 t], []⟩) (.int ((binNum x.cps.toList : Nat) : Int)) :=
  .of_wp fun M A E s Q hQ => by
    obtain ⟨hp, g, d, tk, os⟩ := s
    have f1 := F.conv_sub_int
    have f2 := F.madeHere_int
    have f6 : typeOf (.str x u) = pure (.type "str") := rfl
    obtain ⟨e1, e2⟩ := Hx.seen_hex fun c hc => (h c hc).hex
    have hs : (numSeenOf x).length ≤ 640 := by
      rw [e2, Array.length_toList]
      exact hl
    have hr : (int_private% "readNumeral") 0 2 (numSeenOf x) = (int_private% "Numeral.value") ((binNum x.cps.toList : Nat) : Int) := by
      rw [e2]
      exact read_bin h hne
    have ha : ((numSeenOf x).length == (numTextOf x).length) = true := by
      rw [e1, e2]
      exact beq_self_eq_true _
    have hk := Hx.Hid.mk (And.intro hs (And.intro hr ha))
    clear hs hr ha e1 e2 hl hne h
    repeat (any_goals (first
      | assumption
      | ((with_reducible show wpAny _ _ ((int_private% "intFromText") _ _ _) _ _ _); refine Hx.wp_textB hk.out.1 hk.out.2.1 hk.out.2.2 ?_)
      | wp_step))
    all_goals first | exact ⟨_, rfl, hQ⟩ | skip
/-- int(t, 2) -/
def rIntBin : List V → Hp → VK → Prop := fun xs H Q => ∃ l : List Nat, xs = [.str (SX.S l), .int 2] ∧ l ≠ [] ∧ l.length ≤ 640 ∧ (∀ c ∈ l, IsBin c) ∧ Q (.int ((binNum l : Nat) : Int)) H
theorem cr_intBin {X : Cx} : CallR X (.type "int") rIntBin := by
  intro pins s σ H xs us Q I r h
  obtain ⟨l, rfl, hne, hl, hx, q⟩ := h
  obtain ⟨u, w', rfl, r1, r2⟩ := vals2 r
  obtain ⟨t1, rfl⟩ := r1
  obtain ⟨t2, rfl⟩ := r2
  exact callType_new F.called_int F.newNe_int (Hx.typeCall_int_2 _ _) (Hx.newCall_int_2 _ _) (fun obj => F.initArgs_range_2 obj _ _) F.entry_int_new (gives_bin (x := SX.S l) (by rw [SX.S_len]; exact hl) hx hne).meets
    (show (Made.int ((binNum l : Nat) : Int)).post _ s from ⟨rfl, ⟨.int ((binNum l : Nat) : Int), H, I.tok _, ⟨_, rfl⟩, q⟩⟩)
end Kn.Bi
/-! ### f'{n:b}' -/
namespace Kn.Bi
open PySem PySem.Spec PyProof.Rows L2 PySem.NumText PySem.Calls PySem.W Builtin.Float
def digB (n : Nat) : List Nat := (Nat.toDigits 2 n).map Char.toNat
def fB : FormatSpec := { align := 62, type := some 98 }
theorem parse_b : parseFormatSpec (Str.ofString "b").cps.toList "int" 62 = .ok fB := by kernel_rfl
theorem digB_ne (n : Nat) : digB n ≠ [] := fun z => by
  have h1 := tDigits_len_ge 2 n
  have h2 : (digB n).length = (Nat.toDigits 2 n).length := List.length_map _
  rw [z, List.length_nil] at h2
  omega
theorem field_eq (ds : List Nat) (h : ds ≠ []) : intField' fB false [] ds [] 4 = SX.S ds := by
  unfold intField' fB
  cases ds with
  | nil => exact absurd rfl h
  | cons c r =>
    simp
    omega
theorem field_b {a : Int} (h0 : 0 ≤ a) : intField' fB (decide (a < 0)) [] (digB a.natAbs) [] 4 = SX.S (digB a.natAbs) := by
  rw [decide_eq_false (by omega)]
  exact field_eq _ (digB_ne _)
theorem meets_b {a : Int} {t u : Tok} (h0 : 0 ≤ a) (hl : (digB a.natAbs).length ≤ 100000) : Meets (Builtin.«int.__format__» ⟨[.int a t, .str "b" u], []⟩) (fun _ R s => ∀ t' k, R (.ok (.ret (.str (SX.S (digB a.natAbs)) t'))) { s with toks := k }) := by
  apply KPc.meets_of
  intro _ _ _ _ _ _ hQ
  unfold Builtin.«int.__format__»
  refine wpAny_bind (wpAny_of_eq (a := (_, _)) rfl ?_)
  refine wpAny_bind (wpAny_of_eq (a := _) rfl ?_)
  kxf_if
  refine wpAny_bind (wpAny_typeNameOf (T := "str") (typeIs_str _ _ _) (by decide) fun _ => ?_)
  refine wpAny_bind (wpAny_of_eq (a := some _) rfl ?_)
  kxf_if
  kxf_if
  refine wpAny_bind (wpAny_typeNameOfCut_int ?_)
  rw [parse_b]
  dsimp only
  rw [if_pos (by decide +kernel)]
  show wpAny _ _ (retStr (intField' fB (decide (a < 0)) [] (digB a.natAbs) [] 4)) _ _ _
  exact KXf.ret_text (field_b h0) (by rw [field_b h0, SX.S_len]; exact Evl.sz_of hl) hQ
/-- {x:b} -/
def tFmtB (te : TE) : TE := fun σ H Q => te σ H fun x H1 => ∃ i : Int, x = .int i ∧ 0 ≤ i ∧ (digB i.natAbs).length ≤ 100000 ∧ Q (.str (SX.S (digB i.natAbs))) H1
theorem pe_fmtB {X : Cx} {e sp : Expr} {te : TE} {pos : Pos} (he : PE X e te) (hs : PE X sp (tC (.str "b"))) : PE X (.FormattedValue e (-1) (some sp) pos) (tFmtB te) := by
  refine ⟨fun pins s σ H Q I h => ?_⟩
  refine wpAny_FormattedValue_spec (thn (he.run pins s σ H _ I h) fun v s1 ⟨x, H1, I1, r1, i, ex, h0, hl, q⟩ => ?_)
  subst ex
  obtain ⟨t, rfl⟩ := r1
  refine thn (hs.run pins s1 σ H1 (fun v H2 => v = .str "b" ∧ H2 = H1) I1 ⟨rfl, rfl⟩) fun r s2 ⟨y, H2, I2, r2, ey, eH⟩ => ?_
  subst ey
  subst eH
  obtain ⟨t2, rfl⟩ := r2
  exact ⟨_, t2, rfl, KXf.field_int rfl (by decide +kernel) (by decide +kernel) (fun u => meets_b h0 hl) fun t' k => ⟨.str (SX.S (digB i.natAbs)), H2, I2.tok _, ⟨_, rfl⟩, q⟩⟩
end Kn.Bi
/-! ### comprehensions over ranges -/
namespace Kn
open PySem PySem.Spec PyProof.Rows L2 Evl SX
section
variable {K : PySem.W.Frag} {σ : L2.St} {H H' : Hp} {ta tb te tc : TE} {t u : TT} {x y z v : V} {D : Ends} {tu tw tz : TS}
theorem el_lcR2 {ta : TA} {j : Nat} {vs : List Nat} {lo hi : Int} (f : Nat → Bool) (v : Nat → V) (h : EvA ta σ H [.int lo, .int hi]) (hb : 0 ≤ lo ∧ lo ≤ hi ∧ hi ≤ 40000) (hw : ∀ x, wipe ((wipe σ vs).set j (some x)) vs = wipe σ vs)
    (ht : ∀ (i : Nat) H1, Ex H H1 → lo + (i : Int) < hi → EvT t ((wipe σ vs).set j (some (.int (lo + (i : Int))))) H1 (f i)) (he : ∀ (i : Nat) H1, Ex H H1 → lo + (i : Int) < hi → f i = true → Ev te ((wipe σ vs).set j (some (.int (lo + (i : Int))))) H1 (v i)) :
    EvL (tLc (iRng2 ta) (gName j) t te vs) σ H (given (hi - lo).toNat f v) := fun H0 e Q q => h H0 e _ fun H1 e1 => ⟨lo, hi, rfl, ⟨by omega, by omega, by omega, by omega⟩, fun Dl hD =>
  lc_it walk_range (Cw H1 f v Dl) ⟨hD, Ex.new hD, upd_same⟩ (fun _ _ _ _ => trivial) (fun i x H2 H3 hi p y => by
    obtain ⟨rfl, rfl⟩ := y
    exact ⟨hw _, cw_turn p (by omega) (ht i H1 (e.trans e1) (by omega)) (fun hf => he i H1 (e.trans e1) (by omega) hf)⟩) (fun H' p => q Dl H' (fresh_back e1 p.1) (e1.trans p.2.1) p.2.2)⟩
theorem range7 (c : Nat) (hc : c ≤ 5000) : RgC 1 (((1 + 7 * c : Nat) : Int)) 7 c := by
  have e : Builtin.Range.rangeSize 1 (((1 + 7 * c : Nat) : Int)) 7 = (c : Int) := by
    unfold Builtin.Range.rangeSize
    rw [if_pos (by decide)]
    split <;> omega
  have fit : ∀ i : Int, 0 ≤ i → i ≤ 100000 → Builtin.Range.rangeFitsLong i = true := fun i h1 h2 => by
    unfold Builtin.Range.rangeFitsLong
    rw [decide_eq_true (by omega), decide_eq_true (by omega)]
    rfl
  refine ⟨by decide, by decide, ?_, e⟩
  unfold Builtin.Range.small
  rw [e, fit 1 (by decide) (by decide), fit _ (by omega) (by omega), fit 7 (by decide) (by decide), fit (c : Int) (by omega) (by omega), if_pos (by decide), fit _ (by omega) (by omega), Bool.or_true]
  rfl
theorem el_lcR7 {ta : TA} {j : Nat} {vs : List Nat} {c : Nat} (v : Nat → V) (h : EvA ta σ H [.int 1, .int (((1 + 7 * c : Nat) : Int)), .int 7]) (hc : c ≤ 5000) (hw : ∀ x, wipe ((wipe σ vs).set j (some x)) vs = wipe σ vs)
    (he : ∀ (i : Nat) H1, Ex H H1 → i < c → Ev te ((wipe σ vs).set j (some (.int (1 + (i : Nat) * 7)))) H1 (v i)) :
    EvL (tLc (iRng3 ta) (gName j) tYes te vs) σ H (given c (fun _ => true) v) := fun H0 e Q q => h H0 e _ fun H1 e1 => ⟨1, _, 7, c, rfl, range7 c hc, fun Dl hD =>
  lc_it walk_rangeC (Cw H1 (fun _ => true) v Dl) ⟨hD, Ex.new hD, upd_same⟩ (fun _ _ _ _ => trivial) (fun i x H2 H3 hi p y => by
    obtain ⟨rfl, rfl⟩ := y
    exact ⟨hw _, cw_turn p (by omega) et_yes (fun hf => he i H1 (e.trans e1) hi)⟩) (fun H' p => q Dl H' (fresh_back e1 p.1) (e1.trans p.2.1) p.2.2)⟩
theorem ev_intBin {l : List Nat} (h : EvA (tCons ta (tCons tb tNil)) σ H [.str (S l), .int 2]) (hne : l ≠ []) (hl : l.length ≤ 640) (hb : ∀ c ∈ l, Bi.IsBin c) : Ev (tCB Bi.rIntBin (tCons ta (tCons tb tNil))) σ H (.int ((Bi.binNum l : Nat) : Int)) := fun H1 e Q q =>
  h H1 e _ fun H2 e2 => ⟨l, rfl, hne, hl, hb, q H2 e2⟩
theorem ev_fmtB {n : Nat} (h : Ev te σ H (.int (n : Int))) (hl : (Bi.digB n).length ≤ 100000) : Ev (Bi.tFmtB te) σ H (.str (S (Bi.digB n))) := fun H1 e Q q =>
  h H1 e _ fun H2 e2 => ⟨(n : Int), rfl, by omega, hl, q H2 e2⟩
end
end Kn

/-! ### text * int -/
namespace Kn
open PySem PySem.Spec PyProof.Rows L2 Evl SX
def rMulS : R2 := fun x y H Q => ∃ (z : List Nat) (n : Nat), x = .str (S z) ∧ y = .int (n : Int) ∧ n ≤ 100000 ∧ z.length ≤ 100 ∧ Q (.str (S (List.replicate n z).flatten)) H
theorem rep_arr (z : List Nat) : ∀ (n : Nat) (a : Array Nat), ((List.replicate n z.toArray).foldl (· ++ ·) a).toList = a.toList ++ (List.replicate n z).flatten
  | 0, a => by simp
  | n + 1, a => by
    rw [List.replicate_succ, List.foldl_cons, rep_arr z n, List.replicate_succ, List.flatten_cons]
    simp
theorem op_mulS {X : Cx} : OpR X (binaryOp .Mult) rMulS := by
  intro pins s σ H x y v u Q I rx ry h
  obtain ⟨z, n, rfl, rfl, hn, hz, q⟩ := h
  obtain ⟨t, rfl⟩ := rx
  obtain ⟨t2, rfl⟩ := ry
  have hb : z.length * n ≤ 100 * 100000 := Nat.mul_le_mul hz hn
  have e : ((n : Int)).toNat = n := by omega
  have hl : decide ((S z).length * ((n : Int)).toNat > sizeLine) = false := by
    rw [e, S_len]
    exact decide_eq_false (Nat.not_lt.mpr (Nat.le_trans hb (by decide)))
  have p63 : (2 ^ 63 : Int) = 9223372036854775808 := by decide
  have g1 : decide ((n : Int) < -(2 ^ 63 : Int)) = false := decide_eq_false (by rw [p63]; omega)
  have g2 : decide ((n : Int) ≥ (2 ^ 63 : Int)) = false := decide_eq_false (by rw [p63]; omega)
  refine PySem.P.mul_str (by rw [g1, g2]; rfl) (fun h1 h2 => ?_) (fun _ _ => hl) ?_
  · rw [S_len]
    have h3 : ((z.length * n : Nat) : Int) ≤ ((10000000 : Nat) : Int) := Int.ofNat_le.mpr hb
    rw [Int.natCast_mul] at h3
    have h4 := (Int.le_ediv_iff_mul_le (show (0 : Int) < n by omega)).mpr (show ((z.length : Int)) * (n : Int) ≤ 2 ^ 63 - 1 by rw [p63]; omega)
    omega
  · have key : ∀ y : Str, y = S (List.replicate n z).flatten → ∀ t' k, EP X pins σ Q (.str y t') { s with toks := k } := fun y ey t' k => by
      subst ey
      exact ⟨.str (S (List.replicate n z).flatten), H, I.tok k, ⟨t', rfl⟩, q⟩
    split
    · next h1 =>
      have : n = 0 := by omega
      subst this
      exact ⟨by decide, key _ rfl _ _⟩
    · next h1 =>
      split
      · next h2 =>
        refine key _ ?_ _ s.toks
        rw [Bool.or_eq_true, beq_iff_eq, beq_iff_eq, S_len] at h2
        rcases h2 with h2 | h2
        · have : n = 1 := by omega
          subst this
          simp
        · have : z = [] := List.eq_nil_of_length_eq_zero h2
          subst this
          simp
      · rw [e]
        have ez : (⟨(List.replicate n (S z).cps).foldl (· ++ ·) #[]⟩ : Str) = S (List.replicate n z).flatten := by
          refine TL.ext_tl ?_
          show ((List.replicate n z.toArray).foldl (· ++ ·) #[]).toList = (List.replicate n z).flatten
          rw [rep_arr z n #[]]
          rfl
        refine ⟨?_, key _ ez _ _⟩
        rw [ez, S_len]
        simp
        exact Nat.le_trans (by rw [Nat.mul_comm]; exact hb) (by decide)
end Kn
/-! ### several except clauses, each with the same name -/
namespace Kn
open PySem PySem.Spec PyProof.Rows L2
def wManyAs (K : PySem.W.Frag) (i : Nat) (Wout : WX) (D : Ends) : List (Value × (Addr → Value → Option Addr → TS)) → WX
  | [] => Wout
  | (c, ts) :: r => fun cls d σ H => ∃ b, PySem.W.exmOne K cls c = some b ∧
      (b = true → ∀ a, H a = none → ts a cls d { nx := fun σ' H' => D.nx (σ'.set i none) H', rt := D.rt, bk := fun σ' H' => D.bk (σ'.set i none) H', ct := fun σ' H' => D.ct (σ'.set i none) H' } (σ.set i (some (.ref a))) H) ∧
      (b = false → wManyAs K i Wout D r cls d σ H)
inductive HdsAs (X : Cx) (n : Str) : List ExceptHandler → List (Value × (Addr → Value → Option Addr → TS)) → Prop
  | nil : HdsAs X n [] []
  | cons {x : Str} {c : Value} {ts : Addr → Value → Option Addr → TS} {b₀ : Stmt} {suite : List Stmt} {np pos' : Pos} {hds : List ExceptHandler} {l : List (Value × (Addr → Value → Option Addr → TS))} (hc : Names X x c)
      (hsu : ∀ (a : Addr) (oe : Obj) (cls : Value) (d : Option Addr) (pn : List (Addr × Obj)), Zc cls d oe → (∃ vs, oe.data = .fields vs) → PSs (X.suite a ((a, oe) :: pn)) (b₀ :: suite) (ts a cls d)) (r : HdsAs X n hds l) :
      HdsAs X n (.ExceptHandler (some (.Name x np)) (some n) (b₀ :: suite) pos' :: hds) ((c, ts) :: l)
section
variable {X : Cx} {body : List Stmt} {h₀ : ExceptHandler} {hds : List ExceptHandler} {l : List (Value × (Addr → Value → Option Addr → TS))} {pos : Pos} {tb : WX → TS} {Wout : WX} {n : Str} {i : Nat}
theorem ps_try_manyAs (hs : X.stack = X.env :: X.outer) (hf : X.env.frame = some X.env.locals) (hN : X.N.Nodup) (hi : X.N[i]? = some n) (hln : X.env.kindOf n = some .local) (tk : Takes X Wout)
    (hb : ∀ (W : WX) (pn : List (Addr × Obj)) (xe : Value → Shared → Prop), Takes (X.tr pn xe) W → PassesOwn (model X.prog X.w) X.A X.env xe → PSs (X.tr pn xe) body (tb W))
    (hh : HdsAs X n (h₀ :: hds) l) : PS X (.Try body (h₀ :: hds) [] [] pos) (fun D σ H => tb (wManyAs X.K i Wout D l) D σ H) := by
  refine ⟨fun pins s σ H D I h => ?_⟩
  have ok := I.ok
  have hfr : X.A.frames = some (X.env :: X.outer) := by rw [ok.frames, hs]
  have hloc : Loc X.env.scope n := .inl hln
  refine wpAny_Try_except ?_
  refine wpAny_mono ((hb (wManyAs X.K i Wout D l) (X.pn ++ pins) (fun e s₁ => wpAny (model X.prog X.w) X.A (noteFrame e X.env) (fun _ s₂ => wpAny (model X.prog X.w) X.A (setFlight e none) (fun _ s₃ =>
    wpAny (model X.prog X.w) X.A (handleBy e X.env (h₀ :: hds)) (SP X pins D) X.xe s₃) X.xe s₂) X.xe s₁) (fun u s' xx => ?_) PassesOwn.looking).run [] s σ H D (I.toTry _) h) (fun f s1 hsp => ?_) (fun e s1 he => he)
  · obtain ⟨a, B, sI, pins', σ', H', cls, d, rfl, J', nb, up, sky, na, os, ag, w⟩ := xx
    have J : Inv X pins σ' H' sI := J'.ofTry ok
    have sky' : Sky B (X.env :: X.outer) a (Zc cls d) X.env.locals s'.heap := by rw [← hs]; exact sky
    show wpAny (model X.prog X.w) X.A (noteFrame (.ref a) X.env) _ _ _
    refine Sky.land Zc.steady hfr hf sky' fun h3 fl3 up3 => ?_
    have J3 : Inv X pins σ' H' { s' with heap := h3 } := J.landed nb fl3.1 (up.trans up3) os ag
    obtain ⟨oe3, vs3, he3, hz3, hd3⟩ := fl3.there
    have notFr : ∀ {h : Heap} {o : Obj} {vs : Array Value}, h.FunFrames B (X.env :: X.outer) → h.get? a = some o → o.data = .fields vs → a ∉ frs (X.env :: X.outer) := fun {h o vs} ff e dd hm => by
      obtain ⟨_, o', e', hnf⟩ := ff.mem hm
      rw [e] at e'; cases e'
      exact hnf _ dd
    have nfr := notFr fl3.2.2.1 he3 hd3
    have nL : a ≠ X.env.locals := fun z => nfr (List.mem_filterMap.mpr ⟨X.env, List.mem_cons_self, by rw [hf, z]⟩)
    have nF : a ∉ X.fs := fun hm => by
      obtain ⟨e, he, q⟩ := List.mem_filterMap.mp hm
      exact nfr (List.mem_filterMap.mpr ⟨e, List.mem_cons_of_mem _ he, q⟩)
    have S3 := J3.suite he3 hd3 na nL nF
    have go : ∀ {hds' : List ExceptHandler} {l' : List (Value × (Addr → Value → Option Addr → TS))}, HdsAs X n hds' l' → wManyAs X.K i Wout D l' cls d σ' H' →
        wpAny (model X.prog X.w) X.A (handleBy (.ref a) X.env hds') (SP X pins D) X.xe { s' with heap := h3 } := by
      intro hds' l' hk
      induction hk with
      | nil =>
        intro w
        refine wpAny_handleBy_nil ?_
        obtain ⟨k1, k2, k3, oe, vs, T, oT, ts', he, hz, hd, h1, hr⟩ := id fl3
        unfold PySem.passOn
        refine wpAny_bind (wpAny_field he hd h1 ?_)
        rw [if_neg (show ¬ ((Value.ref T == Value.none) = true) from by simp)]
        have fin : wpAny (model X.prog X.w) X.A (setFlight (.ref a) X.env.frame) (fun _ s4 => wpAny (model X.prog X.w) X.A (throw (.ref a) : Sem Flow) (SP X pins D) X.xe s4) X.xe { s' with heap := h3 } := by
          rw [hf]
          refine HandSPX.setFlight_upZ fl3 fun h4 hh4 up4 => wpAny_throw (tk _ _ ?_)
          exact ⟨a, B, sI, pins, σ', H', cls, d, rfl, J, nb, (up.trans up3).trans up4, .inr (.inr (by rw [hs]; exact hh4)), na, os, ag, w⟩
        first
          | exact wpAny_bind (wpAny_pure (wpAny_bind fin))
          | exact wpAny_bind fin
      | @cons x c ts b₀ suite np pos' hds2 l2 hc hsu r ih =>
        intro w
        obtain ⟨b, hb1, hyes, hno⟩ := w
        refine wpAny_handleBy_cons (codeAny_handlers_test ?_) (by intro q; cases q)
        have LT : PySem.W.Looks (model X.prog X.w) h3 (typeOf (.ref a)) cls := fun A Q E s k q => wpAny_typeOf_ref (k _ _ he3) (by rw [hz3.1]; exact q)
        have LM := PySem.W.exm_one (M := model X.prog X.w) (J3.kIn) LT hb1
        have test : ∀ {Q : Value → Shared → Prop} {E : Value → Shared → Prop}, Q c { s' with heap := h3 } → wpAny (model X.prog X.w) (X.A.mark (some (.ref a))) (eval (.Name x np) X.env) Q E { s' with heap := h3 } := fun {Q E} q => by
          obtain ⟨hg, hdbg, hm | ⟨hm, hv, hnn⟩⟩ := hc
          · exact ld_glob (X := X.suite a ((a, oe3) :: (X.pn ++ pins))) S3 hg hm q hdbg
          · exact ld_blt (X := X.suite a ((a, oe3) :: (X.pn ++ pins))) S3 hg hm hv q hnn hdbg
        refine test (LM.here ?_)
        cases b with
        | true =>
          refine codeAny_handlers_suite_as ?_
          refine HandSPX.lands_againZ fl3 fun h4 fl4 up4 => ?_
          have J4 : Inv X pins σ' H' { s' with heap := h4 } := J.landed nb fl4.1 ((up.trans up3).trans up4) os ag
          obtain ⟨oe4, vs4, he4, hz4, hd4⟩ := fl4.there
          have S4 := J4.suite he4 hd4 na nL nF
          refine store_ok (X := X.suite a ((a, oe4) :: (X.pn ++ pins))) (v := .ref a) S4 hN hi hloc rfl (fun s5 S5 => ?_) (.inr hln)
          refine wpAny_mono ((hsu a oe4 cls d (X.pn ++ pins) hz4 ⟨_, hd4⟩).run [] s5 _ H' _ S5 (hyes rfl a na)) (fun f s6 hsp => ?_) (fun _ _ z => False.elim z)
          have end_ : ∀ {σ6 : L2.St} {H6 : Hp} {Q : Shared → Prop}, Inv (X.suite a ((a, oe4) :: (X.pn ++ pins))) [] σ6 H6 s6 → (∀ s7, Inv X pins (σ6.set i none) H6 s7 → Q s7) →
              wpAny (model X.prog X.w) X.A (do bindName X.env n .none; unbindBehindTheSuite X.env n pos') (fun _ s7 => Q s7) X.xe s6 := fun {σ6 H6 Q} S6 hq => gone_ok (S6.unsuite ok) hN hi hln hq
          cases f with
          | next =>
            obtain ⟨σ6, H6, S6, q6⟩ := hsp
            exact end_ S6 fun s7 J7 => ⟨_, _, J7, q6⟩
          | brk =>
            obtain ⟨σ6, H6, S6, q6⟩ := hsp
            exact end_ S6 fun s7 J7 => ⟨_, _, J7, q6⟩
          | cont =>
            obtain ⟨σ6, H6, S6, q6⟩ := hsp
            exact end_ S6 fun s7 J7 => ⟨_, _, J7, q6⟩
          | ret u =>
            obtain ⟨v6, σ6, H6, S6, r6, q6⟩ := hsp
            exact end_ S6 fun s7 J7 => ⟨_, _, _, J7, r6, q6⟩
        | false =>
          show wpAny _ X.A (handleBy (.ref a) X.env hds2) _ _ _
          exact ih (hno rfl)
    exact go hh w
  · cases f with
    | next =>
      obtain ⟨σ', H', J', q⟩ := hsp
      exact wpAny_execs_nil ⟨σ', H', J'.ofTry ok, q⟩
    | brk =>
      obtain ⟨σ', H', J', q⟩ := hsp
      exact ⟨σ', H', J'.ofTry ok, q⟩
    | cont =>
      obtain ⟨σ', H', J', q⟩ := hsp
      exact ⟨σ', H', J'.ofTry ok, q⟩
    | ret u =>
      obtain ⟨v, σ', H', J', r, q⟩ := hsp
      exact ⟨v, σ', H', J'.ofTry ok, r, q⟩
end
/-! ### defs and methods that may raise, called by name; the wish stands at the caller's slots -/
structure ClX (P : Program) (w : World) (K : PySem.W.Frag) (mg : Str → Option Value) (base : Heap) (k : Nat) (x : Str) (sp : Sp) : Prop where
  ex : ∃ (f : Addr) (fd : FuncData) (ps : List Str), FnOk P w K mg base (L2.CX P w) k f fd ps sp ∧ mg x = some (.ref f) ∧ PySem.W.keepIn K (.ref f) = true ∧ Binds K fd ps []
structure MtX (P : Program) (w : World) (K : PySem.W.Frag) (mg : Str → Option Value) (base : Heap) (k : Nat) (C : Addr) (m : Str) (sp : Sp) : Prop where
  ex : ∃ (f : Addr) (fd : FuncData) (ps : List Str), Cls K C ∧ Meth K C m f ∧ FnOk P w K mg base (L2.CX P w) k f fd ps sp ∧ Binds K fd ps []
/-- an own exception class of the program that is made by its own __init__ -/
structure Xk (P : Program) (w : World) (K : PySem.W.Frag) (mg : Str → Option Value) (base : Heap) (k : Nat) (x : Str) (C : Addr) (sp : Sp) : Prop where
  oe : OexC K C
  ex : ∃ (f : Addr) (fd : FuncData) (ps : List Str), PySem.W.findIn K (.ref C) "__init__" = some (some (.ref f)) ∧ PySem.W.typeIn K (.ref f) = some (.type "function") ∧ FnOk P w K mg base CX0 k f fd ps sp ∧ Binds K fd ps [] ∧ mg x = some (.ref C)
section
variable {P : Program} {w : World} {K : PySem.W.Frag} {mg : Str → Option Value} {base : Heap}
theorem clX_of {k : Nat} {x : Str} {sp : Sp} {st : Stmt} {f : Addr} {fd : FuncData} {ps : List Str} (ok : FnOk P w K mg base (L2.CX P w) k f fd ps sp) (F : Fun K x x st f fd) (g : mg x = some (.ref f)) (b : Binds K fd ps []) : ClX P w K mg base k x sp := ⟨f, fd, ps, ok, g, F.kp, b⟩
end
def tMethX (C : Addr) (m : Str) (sp : Sp) (E : L2.St → XK) (ta : TE) (t : TA) : TE := fun σ H Q => ta σ H fun x H1 => ∃ a dx fs, x = .ref a ∧ H1 a = some (.ins C dx fs) ∧ fs.lookup m = none ∧ t σ H1 fun vs H2 => sp (.ref a :: vs) H2 Q (E σ)
section
variable {X : Cx} {W : WX} {k j : Nat} {x m : Str} {sp : Sp} {p pos apos : Pos} {e o : Expr} {es : List Expr} {ta : TE} {t : TA} {C : Addr}
theorem pe_clX (c : ClX X.prog X.w X.K X.mg X.base k x sp) (hr : Room j X.A) (hk : k ≤ j) (hg : Gl X x) (tk : Takes X W) (ha : PA X (e :: es) t)
    (hdb : (x == ("__debug__" : Str)) = false := by decide) (he : starEach (e :: es) X.env = (false, eval e X.env) :: starEach es X.env := by rfl) (hpl : (backTo pos (starEach es X.env)).any (·.1) = false := by rfl) :
    PE X (.Call (.Name x p) (e :: es) [] pos) (tCallS sp (WE W) t) := by
  obtain ⟨f, fd, ps, F, hm, kp, b⟩ := c.ex
  exact pe_callS F (hr.mono hk) hg hm kp b (fun σ => passAt tk σ) ha hdb he hpl
theorem pe_mtX {pl : Sem Bool} (c : MtX X.prog X.w X.K X.mg X.base k C m sp) (hr : Room j X.A) (hk : k ≤ j) (tk : Takes X W) (he : PE X o ta) (ha : PA X (e :: es) t)
    (hst : starEach (e :: es) X.env = (false, eval e X.env) :: starEach es X.env := by rfl) (hpl : (backTo pos (starEach es X.env)).any (·.1) = false := by rfl)
    (ht : eval (.Call (.Attribute o m apos) (e :: es) [] pos) X.env = (do
      let ov ← eval o X.env
      standAt apos.atName
      let (f, first) ← holding [ov] (getMethod ov m pl)
      callWith pos f first (backTo pos (starEach (e :: es) X.env)) (backToKw pos (keywordEach [] X.env))) := by rfl) :
    PE X (.Call (.Attribute o m apos) (e :: es) [] pos) (tMethX C m sp (WE W) ta t) := by
  obtain ⟨f, fd, ps, hc, hm, F, b⟩ := c.ex
  refine ⟨fun pins s σ H Q I h => ?_⟩
  refine PySem.W.methodCall_KW (pl := pl) (thn (he.run pins s σ H _ I h) fun u s1 ⟨x, H1, I1, rx, a, dx, fs, ex, ea, l, q⟩ => ?_) ht
  subst ex
  obtain rfl : u = Value.ref a := rx
  refine getmeth_ok I1 ea hc hm l ?_
  refine PySem.W.callWith_K (first := [.ref a]) (h₀ := X.base) I.ok.mod.kin hm.kp (thn (ha.run pos pins s1 σ H1 _ I1 q) fun us s2 ⟨vs, H2, I2, r, q2⟩ => ⟨I2.kIn, ?_⟩) hst hpl
  exact run_fnS (us := .ref a :: us) (vs := .ref a :: vs) F (hr.mono hk) b (passAt tk σ) I2 (.cons rfl r) q2
/-- raise C(e, ..) -/
theorem ps_xk (c : Xk X.prog X.w X.K X.mg X.base k x C sp) (hr : Room j X.A) (hk : k + 1 ≤ j) (hc : X.calm = true) (tk : Takes X W) (hg : Gl X x) (ha : PA X (e :: es) t)
    (hdb : (x == ("__debug__" : Str)) = false := by decide) (he : starEach (e :: es) X.env = (false, eval e X.env) :: starEach es X.env := by rfl) (hpl : (backTo pos (starEach es X.env)).any (·.1) = false := by rfl) :
    PS X (.Raise (some (.Call (.Name x p) (e :: es) [] pos)) none apos) (fun _ σ H => tMkO C sp [] t σ H (fun cls d H' => W cls d σ H')) := by
  obtain ⟨fI, fd, ps, iC, tI, F, b, gC⟩ := c.ex
  exact ps_raise hc tk (pmk_oex c.oe iC tI F (hr.mono hk) b .nil pass0 hg gC ha hdb he hpl)
end
end Kn
/-! ### own exceptions: facts, f-strings, __init__ with one field and with four, raising -/
namespace Kn
open PySem PySem.Spec PyProof.Rows L2 Evl SX
section
variable {K : PySem.W.Frag}
theorem kit_ref {C B : Addr} {b : Bool} (hd : PySem.W.hasDictIn K B = true) (ht : PySem.W.typeIn K (.ref B) = some (.type "type")) (hs : PySem.W.subIn K (.ref C) (.ref B) = some b) (hcc : PySem.W.subIn K (.ref C) (.ref C) = some true) : PySem.W.kitOne K (.ref C) (.ref B) = some b := by
  unfold PySem.W.kitOne
  by_cases h : C = B
  · subst h
    rw [if_pos (beq_self_eq_true _)]
    exact hcc.symm.trans hs
  · rw [if_neg (fun z => h (Value.ref.inj (beq_iff_eq.mp z)))]
    obtain ⟨cd, hc, _⟩ := PySem.W.any_some hd
    show (if ((PySem.W.clsIn K B).isSome && PySem.W.typeIn K (.ref B) == some (.type "type")) = true then PySem.W.subIn K (.ref C) (.ref B) else none) = some b
    rw [if_pos (by rw [hc, ht]; rfl)]
    exact hs
structure Xc (K : PySem.W.Frag) (C B : Addr) : Prop where
  oe : OexC K C
  xc : ExcC K C
  xf : XfC K C
  me : PySem.W.exmOne K (.ref C) (.ref C) = some true
  kB : PySem.W.kitOne K (.ref C) (.ref B) = some true
end
section
variable {K : PySem.W.Frag} {σ : L2.St} {H H' H1 : Hp} {te t1 t2 t3 t4 : TE}
theorem ev_fmtS {l : List Nat} (h : Ev te σ H (.str (S l))) (hl : l.length ≤ 100000) : Ev (tFmt te) σ H (.str (S l)) := fun H1 e Q q => h H1 e _ fun H2 e2 => .inl ⟨S l, rfl, by rw [S_len]; exact sz_of hl, q H2 e2⟩
theorem ev_fmtI {n : Nat} (h : Ev te σ H (.int (n : Int))) (hn : n < 10 ^ 9) : Ev (tFmt te) σ H (.str (S (TL.numL n))) := fun H1 e Q q => h H1 e _ fun H2 e2 => .inr ⟨(n : Int), rfl, by
  rw [Int.natAbs_natCast]
  have : n.log2 < 100 := by
    by_cases h0 : n = 0
    · subst h0
      decide
    · exact (Nat.log2_lt h0).mpr (Nat.lt_trans hn (by decide))
  omega, by
  have z := num_S n
  rw [← z] at q
  exact q H2 e2⟩
theorem js_run : ∀ {ts : List TE} {ls : List (List Nat)}, Paired (fun t l => Ev t σ H (.str (S l))) ts ls → ∀ (acc : List Nat) (H1 : Hp), Ex H H1 → acc.length + (ls.map (·.length)).sum ≤ 100000 → ∀ Q : Str → Hp → Prop, (∀ H2, Ex H1 H2 → Q (S (acc ++ ls.flatten)) H2) → tJs ts (S acc) σ H1 Q
  | [], [], .nil, acc, H1, e, _, Q, q => by
    rw [List.flatten_nil, List.append_nil] at q
    exact q H1 (Ex.refl H1)
  | t :: ts, l :: ls, .cons h r, acc, H1, e, hz, Q, q => h H1 e _ fun H2 e2 => by
    rw [List.map_cons, List.sum_cons] at hz
    refine ⟨S l, rfl, ?_, ?_⟩
    · rw [S_cat, S_len, List.length_append]
      exact sz_of (by omega)
    · rw [S_cat]
      refine js_run r (acc ++ l) H2 (e.trans e2) (by rw [List.length_append]; omega) Q fun H3 e3 => ?_
      rw [List.append_assoc, ← List.flatten_cons]
      exact q H3 (e2.trans e3)
theorem ev_js {ts : List TE} {ls : List (List Nat)} (h : Paired (fun t l => Ev t σ H (.str (S l))) ts ls) (hz : (ls.map (·.length)).sum ≤ 100000) : Ev (fun σ H Q => tJs ts Str.empty σ H fun out H1 => Q (.str out) H1) σ H (.str (S ls.flatten)) := fun H1 e Q q => by
  have z : Str.empty = S [] := rfl
  show tJs ts Str.empty σ H1 _
  rw [z]
  exact js_run h [] H1 e (by rw [List.length_nil]; omega) _ fun H2 e2 => q H2 e2
/-- Base.__init__(self, text) -/
theorem q_beinit {D : Ends} {tz : TS} {a C : Addr} {ta tb : TE} {l : List Nat} (ha : Ev ta σ H (.ref a)) (hb : Ev tb σ H (.str (S l))) (oe : OexC K C) (ho : H a = some (exo a C none)) (k : ∀ H1, Ex H H1 → tz D σ H1) : tSeq (tDrop (tVeI K (tCons ta (tCons tb tNil)))) tz D σ H :=
  ha H (Ex.refl H) _ fun H1 e1 => hb H1 e1 _ fun H2 e2 => ⟨a, C, [.str (S l)], rfl, (by show 1 ≤ 1000; decide), oe, e2 _ _ (e1 _ _ ho), k H2 (e1.trans e2)⟩
/-- an exception's new dict at dx: the fields -/
def XMade (H H' : Hp) (a C dx : Addr) (fs : List (Str × V)) : Prop := H' a = some (exo a C (some dx)) ∧ H' dx = some (exd dx fs) ∧ ∀ b o, b ≠ a → b ≠ dx → H b = some o → H' b = some o
def sp_I1 (f : Str) (K : PySem.W.Frag) : Sp := fun vs H Q _ => ∃ (a C : Addr) (l : List Nat), vs = [.ref a, .str (S l)] ∧ l.length ≤ 90000 ∧ H a = some (exo a C none) ∧ OexC K C ∧ PySem.W.findIn K (.ref C) f = some none ∧
  ∀ dx H', H dx = none → dx ≠ a → XMade H H' a C dx [(f, .str (S l))] → Q .non H'
theorem xmade_new {a C dx : Addr} {f : Str} {v : V} (e : Ex H H1) (ne : dx ≠ a) : XMade H (upd (upd H1 dx (exd dx [(f, v)])) a (exo a C (some dx))) a C dx [(f, v)] :=
  ⟨upd_same, by rw [upd_ne ne, upd_same], fun b o h1 h2 h => by rw [upd_ne h1, upd_ne h2]; exact e _ _ h⟩
theorem XMade.more {a C dx : Addr} {fs : List (Str × V)} {f : Str} {v : V} (m : XMade H H1 a C dx fs) (ne : dx ≠ a) (e : Ex H1 H') : XMade H (upd H' dx (exd dx ((f, v) :: fs))) a C dx ((f, v) :: fs) :=
  ⟨by rw [upd_ne (Ne.symm ne)]; exact e _ _ m.1, upd_same, fun b o h1 h2 h => by rw [upd_ne h2]; exact e _ _ (m.2.2 b o h1 h2 h)⟩
theorem xm_raise {W : WX} {a C dx : Addr} {fs : List (Str × V)} {H2 : Hp} (e2 : Ex H H2) (na : H2 a = none) (nd : H2 dx = none) (m : XMade (upd H2 a (exo a C none)) H' a C dx fs) (hk : ∀ d H', Ex H H' → H' d = some (.xd fs) → W (.ref C) (some d) σ H') : W (.ref C) (some dx) σ (upd (del H' a) dx (.xd fs)) := by
  refine hk dx _ (fun b o hb => ?_) upd_same
  have hb2 := e2 _ _ hb
  have n1 := ne_of_none hb2 nd
  have n2 := ne_of_none hb2 na
  rw [upd_ne n1, del_ne n2]
  exact m.2.2 b o n2 n1 (by rw [upd_ne n2]; exact hb2)
theorem raise1 {W : WX} {C : Addr} {f : Str} {l : List Nat} (oe : OexC K C) (nf : PySem.W.findIn K (.ref C) f = some none) (hl : l.length ≤ 90000) (hv : Ev te σ H (.str (S l)))
    (hk : ∀ d H', Ex H H' → H' d = some (.xd [(f, .str (S l))]) → W (.ref C) (some d) σ H') : tMkO C (sp_I1 f K) [] (tCons te tNil) σ H (fun cls d H' => W cls d σ H') :=
  hv H (Ex.refl _) _ fun H2 e2 => ⟨(by show 1 ≤ 1000; decide), fun a na => ⟨a, C, l, rfl, hl, upd_same, oe, nf, fun dx H' hdx ne m =>
    ⟨rfl, dx, _, m.1, m.2.1, upd_none hdx, xm_raise e2 na (upd_none hdx) m hk⟩⟩⟩
theorem init1_body {D : Ends} {f : Str} {a C : Addr} {l m : List Nat} {tj : TE} (hj : Ev tj [some (.ref a), some (.str (S l))] H (.str (S m))) (ha : H a = some (exo a C none)) (oe : OexC K C) (nf : PySem.W.findIn K (.ref C) f = some none)
    (q : ∀ dx H', H dx = none → dx ≠ a → XMade H H' a C dx [(f, .str (S l))] → D.nx [some (.ref a), some (.str (S l))] H') : tSeq (tDrop (tVeI K (tCons (tVar 0) (tCons tj tNil)))) (tOst K f (tVar 0) (tVar 1)) D [some (.ref a), some (.str (S l))] H := by
  refine q_beinit (ev_var rfl) hj oe ha fun H1 e1 => ?_
  exact ⟨_, rfl, _, rfl, a, C, rfl, oe, nf, .inl ⟨e1 _ _ ha, fun dx hd ne => q dx _ (fresh_back e1 hd) ne (xmade_new e1 ne)⟩⟩
/-- path, line, column, reason -/
def fs4 (p : List Nat) (n c : Nat) (r : List Nat) : List (Str × V) := [("reason", .str (S r)), ("column", .int (c : Int)), ("line", .int (n : Int)), ("path", .str (S p))]
structure Nf4 (K : PySem.W.Frag) (C : Addr) : Prop where
  p : PySem.W.findIn K (.ref C) "path" = some none
  l : PySem.W.findIn K (.ref C) "line" = some none
  c : PySem.W.findIn K (.ref C) "column" = some none
  r : PySem.W.findIn K (.ref C) "reason" = some none
def Sm4 (p : List Nat) (n c : Nat) (r : List Nat) : Prop := p.length ≤ 9000 ∧ r.length ≤ 9000 ∧ n < 10 ^ 9 ∧ c < 10 ^ 9
def sp_I4 (K : PySem.W.Frag) : Sp := fun vs H Q _ => ∃ (a C : Addr) (p : List Nat) (n c : Nat) (r : List Nat), vs = [.ref a, .str (S p), .int (n : Int), .int (c : Int), .str (S r)] ∧ Sm4 p n c r ∧ H a = some (exo a C none) ∧ OexC K C ∧ Nf4 K C ∧
  ∀ dx H', H dx = none → dx ≠ a → XMade H H' a C dx (fs4 p n c r) → Q .non H'
theorem raise4 {W : WX} {C : Addr} {p r : List Nat} {n c : Nat} (oe : OexC K C) (nf : Nf4 K C) (hl : Sm4 p n c r) (h1 : Ev t1 σ H (.str (S p))) (h2 : Ev t2 σ H (.int (n : Int))) (h3 : Ev t3 σ H (.int (c : Int))) (h4 : Ev t4 σ H (.str (S r)))
    (hk : ∀ d H', Ex H H' → H' d = some (.xd (fs4 p n c r)) → W (.ref C) (some d) σ H') : tMkO C (sp_I4 K) [] (tCons t1 (tCons t2 (tCons t3 (tCons t4 tNil)))) σ H (fun cls d H' => W cls d σ H') :=
  ea_cons h1 (ea_cons h2 (ea_cons h3 (ea_cons h4 ea_nil))) H (Ex.refl _) _ fun H2 e2 => ⟨(by show 4 ≤ 1000; decide), fun a na => ⟨a, C, p, n, c, r, rfl, hl, upd_same, oe, nf, fun dx H' hdx ne m =>
    ⟨rfl, dx, _, m.1, m.2.1, upd_none hdx, xm_raise e2 na (upd_none hdx) m hk⟩⟩⟩
theorem init4_body {D : Ends} {a C : Addr} {p r m : List Nat} {n c : Nat} {tj : TE} {σ0 : L2.St} (hσ : σ0 = [some (.ref a), some (.str (S p)), some (.int (n : Int)), some (.int (c : Int)), some (.str (S r))]) (hj : Ev tj σ0 H (.str (S m))) (ha : H a = some (exo a C none)) (oe : OexC K C) (nf : Nf4 K C)
    (q : ∀ dx H', H dx = none → dx ≠ a → XMade H H' a C dx (fs4 p n c r) → D.nx σ0 H') : tSeq (tDrop (tVeI K (tCons (tVar 0) (tCons tj tNil)))) (tSeq (tOst K "path" (tVar 0) (tVar 1)) (tSeq (tOst K "line" (tVar 0) (tVar 2)) (tSeq (tOst K "column" (tVar 0) (tVar 3)) (tOst K "reason" (tVar 0) (tVar 4))))) D σ0 H := by
  subst hσ
  refine q_beinit (ev_var rfl) hj oe ha fun H1 e1 => ?_
  refine ⟨_, rfl, _, rfl, a, C, rfl, oe, nf.p, .inl ⟨e1 _ _ ha, fun dx hd ne => ?_⟩⟩
  have m1 := xmade_new (C := C) (f := "path") (v := .str (S p)) e1 ne
  refine ⟨_, rfl, _, rfl, a, C, rfl, oe, nf.l, .inr ⟨dx, _, m1.1, m1.2.1, (by show 1 ≤ 900; decide), ?_⟩⟩
  have m2 := m1.more (f := "line") (v := .int (n : Int)) ne (Ex.refl _)
  refine ⟨_, rfl, _, rfl, a, C, rfl, oe, nf.c, .inr ⟨dx, _, m2.1, m2.2.1, (by show 2 ≤ 900; decide), ?_⟩⟩
  have m3 := m2.more (f := "column") (v := .int (c : Int)) ne (Ex.refl _)
  refine ⟨_, rfl, _, rfl, a, C, rfl, oe, nf.r, .inr ⟨dx, _, m3.1, m3.2.1, (by show 3 ≤ 900; decide), ?_⟩⟩
  exact q dx _ (fresh_back e1 hd) ne (m3.more ne (Ex.refl _))
end
end Kn
/-! ### data at any depth, all of it tracked -/
namespace Kn
open PySem PySem.Spec PyProof.Rows L2 Evl SX
mutual
inductive Dt (H : Hp) : V → PyData → Prop
  | non : Dt H .non .none
  | bl (b : Bool) : Dt H (.bl b) (.bool b)
  | int (i : Int) : Dt H (.int i) (.int i)
  | str (x : Str) : Dt H (.str x) (.str x)
  | lst {a : Addr} {xs : List V} {ds : List PyData} : H a = some (.lst xs) → DtA H xs ds → Dt H (.ref a) (.list ds)
  | tup {a : Addr} {xs : List V} {ds : List PyData} : H a = some (.tup xs) → DtA H xs ds → Dt H (.ref a) (.tuple ds)
inductive DtA (H : Hp) : List V → List PyData → Prop
  | nil : DtA H [] []
  | cons {v : V} {vs : List V} {d : PyData} {ds : List PyData} : Dt H v d → DtA H vs ds → DtA H (v :: vs) (d :: ds)
end
mutual
theorem Dt.mono {H H1 : Hp} (e : Ex H H1) : ∀ {v : V} {d : PyData}, Dt H v d → Dt H1 v d
  | _, _, .non => .non
  | _, _, .bl b => .bl b
  | _, _, .int i => .int i
  | _, _, .str x => .str x
  | _, _, .lst h r => .lst (e _ _ h) (DtA.mono e r)
  | _, _, .tup h r => .tup (e _ _ h) (DtA.mono e r)
theorem DtA.mono {H H1 : Hp} (e : Ex H H1) : ∀ {vs : List V} {ds : List PyData}, DtA H vs ds → DtA H1 vs ds
  | _, _, .nil => .nil
  | _, _, .cons h r => .cons (Dt.mono e h) (DtA.mono e r)
end
mutual
theorem Dt.dp {K : PySem.W.Frag} {H : Hp} : ∀ {v : V} {d : PyData}, Dt H v d → Dp K H v d
  | _, _, .non => .non
  | _, _, .bl b => .bl b
  | _, _, .int i => .int i
  | _, _, .str x => .str x
  | _, _, .lst h r => .lst (sq_of h) (DtA.dp r)
  | _, _, .tup h r => .tup (st_of h) (DtA.dp r)
theorem DtA.dp {K : PySem.W.Frag} {H : Hp} : ∀ {vs : List V} {ds : List PyData}, DtA H vs ds → DpAll K H vs ds
  | _, _, .nil => .nil
  | _, _, .cons h r => .cons (Dt.dp h) (DtA.dp r)
end
mutual
/-- no list in it -/
def noL : PyData → Bool
  | .list _ => false
  | .dict _ => false
  | .tuple ds => noLA ds
  | .none => true
  | .bool _ => true
  | .int _ => true
  | .str _ => true
def noLA : List PyData → Bool
  | [] => true
  | d :: ds => noL d && noLA ds
end
mutual
/-- what has no list in it does not see that a list changes -/
theorem Dt.upd {H : Hp} {p : Addr} {o o' : HO} (hp : H p = some o) (ho : ∀ xs, o ≠ .tup xs) : ∀ {v : V} {d : PyData}, Dt H v d → noL d = true → Dt (L2.upd H p o') v d
  | _, _, .non, _ => .non
  | _, _, .bl b, _ => .bl b
  | _, _, .int i, _ => .int i
  | _, _, .str x, _ => .str x
  | _, _, .lst _ _, h => by
    unfold noL at h
    cases h
  | _, _, .tup h r, n => by
    unfold noL at n
    exact .tup (by rw [upd_ne (ne_of h hp fun z => ho _ z.symm)]; exact h) (DtA.upd hp ho r n)
theorem DtA.upd {H : Hp} {p : Addr} {o o' : HO} (hp : H p = some o) (ho : ∀ xs, o ≠ .tup xs) : ∀ {vs : List V} {ds : List PyData}, DtA H vs ds → noLA ds = true → DtA (L2.upd H p o') vs ds
  | _, _, .nil, _ => .nil
  | _, _, .cons h r, n => by
    unfold noLA at n
    rw [Bool.and_eq_true] at n
    exact .cons (Dt.upd hp ho h n.1) (DtA.upd hp ho r n.2)
end
theorem DtA.len {H : Hp} : ∀ {vs : List V} {ds : List PyData}, DtA H vs ds → vs.length = ds.length
  | _, _, .nil => rfl
  | _, _, .cons _ r => by rw [List.length_cons, List.length_cons, DtA.len r]
theorem DtA.snoc {H : Hp} {v : V} {d : PyData} (h : Dt H v d) : ∀ {vs : List V} {ds : List PyData}, DtA H vs ds → DtA H (vs ++ [v]) (ds ++ [d])
  | _, _, .nil => .cons h .nil
  | _, _, .cons a r => .cons a (DtA.snoc h r)
theorem DtA.app {H : Hp} {vs2 : List V} {ds2 : List PyData} (h : DtA H vs2 ds2) : ∀ {vs : List V} {ds : List PyData}, DtA H vs ds → DtA H (vs ++ vs2) (ds ++ ds2)
  | _, _, .nil => h
  | _, _, .cons a r => .cons a (DtA.app h r)
theorem DtA.get {H : Hp} : ∀ {vs : List V} {ds : List PyData}, DtA H vs ds → ∀ (i : Nat) (d : PyData), ds[i]? = some d → ∃ v, vs[i]? = some v ∧ Dt H v d
  | _, _, .cons (v := v) h r, 0, d', e => by
    cases Option.some.inj e
    exact ⟨v, rfl, h⟩
  | _, _, .cons h r, i + 1, d', e => by
    obtain ⟨v, e1, h1⟩ := DtA.get r i d' (by simpa using e)
    exact ⟨v, by simpa using e1, h1⟩
  | _, _, .nil, _, _, e => by simp at e
theorem DtA.drop {H : Hp} : ∀ {vs : List V} {ds : List PyData} (n : Nat), DtA H vs ds → DtA H (vs.drop n) (ds.drop n)
  | _, _, 0, h => h
  | _, _, n + 1, .nil => .nil
  | _, _, n + 1, .cons _ r => DtA.drop n r
theorem Dt.tup_inv {H : Hp} {v : V} {ds : List PyData} (h : Dt H v (.tuple ds)) : ∃ a xs, v = .ref a ∧ H a = some (.tup xs) ∧ DtA H xs ds := by
  cases h with
  | tup h r => exact ⟨_, _, rfl, h, r⟩
theorem Dt.lst_inv {H : Hp} {v : V} {ds : List PyData} (h : Dt H v (.list ds)) : ∃ a xs, v = .ref a ∧ H a = some (.lst xs) ∧ DtA H xs ds := by
  cases h with
  | lst h r => exact ⟨_, _, rfl, h, r⟩
theorem Dt.str_inv {H : Hp} {v : V} {x : Str} (h : Dt H v (.str x)) : v = .str x := by cases h; rfl
theorem Dt.int_inv {H : Hp} {v : V} {x : Int} (h : Dt H v (.int x)) : v = .int x := by cases h; rfl
theorem Dt.bl_inv {H : Hp} {v : V} {x : Bool} (h : Dt H v (.bool x)) : v = .bl x := by cases h; rfl
theorem Dt.non_inv {H : Hp} {v : V} (h : Dt H v .none) : v = .non := by cases h; rfl
def EvD (te : TE) (σ : L2.St) (H : Hp) (d : PyData) : Prop := ∀ H1, Ex H H1 → ∀ Q : VK, (∀ v H2, Ex H1 H2 → Dt H2 v d → Q v H2) → te σ H1 Q
def EvDA (ta : TA) (σ : L2.St) (H : Hp) (ds : List PyData) : Prop := ∀ H1, Ex H H1 → ∀ Q : List V → Hp → Prop, (∀ vs H2, Ex H1 H2 → DtA H2 vs ds → Q vs H2) → ta σ H1 Q
def RtD (H : Hp) (d : PyData) (Q : VK) : Prop := ∀ v H1, Ex H H1 → Dt H1 v d → Q v H1
theorem RtD.mono {H H1 : Hp} {d : PyData} {Q : VK} (q : RtD H d Q) (e : Ex H H1) : RtD H1 d Q := fun v H2 e2 h => q v H2 (e.trans e2) h
section
variable {K : PySem.W.Frag} {σ : L2.St} {H H' : Hp} {ta tb te : TE} {t u : TT} {x y z v : V} {d e' : PyData} {tas tr : TA} {D : Ends} {tz tu : TS} {ds : List PyData}
theorem evd_of (h : Ev te σ H v) (hd : Dt H v d) : EvD te σ H d := fun H1 e Q q => h H1 e _ fun H2 e2 => q v H2 e2 (hd.mono (e.trans e2))
theorem evd_is (h : EvD te σ H d) (e : d = e') : EvD te σ H e' := by rw [← e]; exact h
theorem EvD.mono (e : Ex H H') (h : EvD te σ H d) : EvD te σ H' d := fun H1 a Q q => h H1 (e.trans a) Q q
theorem evd_str {l : List Nat} (h : Ev te σ H (.str (S l))) : EvD te σ H (.str (S l)) := evd_of h (.str _)
theorem evd_int {i : Int} (h : Ev te σ H (.int i)) : EvD te σ H (.int i) := evd_of h (.int _)
theorem evd_bl {b : Bool} (h : Ev te σ H (.bl b)) : EvD te σ H (.bool b) := evd_of h (.bl _)
theorem evd_cS {s : Str} {l : List Nat} (h : s.cps.toList = l) : EvD (tC (.str s)) σ H (.str (S l)) := evd_str (ev_cS h)
theorem ev_ofS {l : List Nat} (h : EvD te σ H (.str (S l))) : Ev te σ H (.str (S l)) := fun H1 e Q q => h H1 e _ fun v H2 e2 hv => by
  rw [hv.str_inv]
  exact q H2 e2
theorem ev_ofI {i : Int} (h : EvD te σ H (.int i)) : Ev te σ H (.int i) := fun H1 e Q q => h H1 e _ fun v H2 e2 hv => by
  rw [hv.int_inv]
  exact q H2 e2
theorem eda_nil : EvDA tNil σ H [] := fun H1 _ _ q => q [] H1 (Ex.refl H1) .nil
theorem eda_cons (h : EvD te σ H d) (hr : EvDA tr σ H ds) : EvDA (tCons te tr) σ H (d :: ds) := fun H1 e Q q => h H1 e _ fun v H2 e2 hv => hr H2 (e.trans e2) _ fun vs H3 e3 hvs => q _ H3 (e2.trans e3) (.cons (hv.mono e3) hvs)
theorem evd_tup (h : EvDA tas σ H ds) (hl : ds.length ≤ 100000) : EvD (tTup tas) σ H (.tuple ds) := fun H1 e Q q => h H1 e _ fun vs H2 e2 hvs => ⟨by rw [hvs.len]; exact sz_of hl, fun p hp => q _ _ (e2.trans (Ex.new hp)) (.tup upd_same (hvs.mono (Ex.new hp)))⟩
theorem evd_lst (h : EvDA tas σ H ds) (hl : ds.length ≤ 100000) : EvD (tLst tas) σ H (.list ds) := fun H1 e Q q => h H1 e _ fun vs H2 e2 hvs => ⟨by rw [hvs.len]; exact sz_of hl, fun p hp => q _ _ (e2.trans (Ex.new hp)) (.lst upd_same (hvs.mono (Ex.new hp)))⟩
theorem ev_eqD (ha : EvD ta σ H d) (hb : EvD tb σ H e') (s1 : SeqAt.shaped d = true) (s2 : SeqAt.shaped e' = true) : Ev (tOp (rEqD K) ta tb) σ H (.bl (PyData.eqv d e')) := fun H1 e Q q =>
  ha H1 e _ fun v H2 e2 hv => hb H2 (e.trans e2) _ fun w H3 e3 hw => ⟨d, e', (hv.mono e3).dp, hw.dp, s1, s2, q H3 (e2.trans e3)⟩
theorem ev_neD (ha : EvD ta σ H d) (hb : EvD tb σ H e') (s1 : SeqAt.shaped d = true) (s2 : SeqAt.shaped e' = true) : Ev (tOp (rNeD K) ta tb) σ H (.bl (!PyData.eqv d e')) := fun H1 e Q q =>
  ha H1 e _ fun v H2 e2 hv => hb H2 (e.trans e2) _ fun w H3 e3 hw => ⟨d, e', (hv.mono e3).dp, hw.dp, s1, s2, q H3 (e2.trans e3)⟩
theorem evd_ifE {b : Bool} (h : EvT t σ H b) (h1 : b = true → EvD ta σ H d) (h2 : b = false → EvD tb σ H d) : EvD (tIf t ta tb) σ H d := fun H1 e Q q => h H1 e _ fun H2 e2 => by
  cases b with
  | true =>
    show ta σ H2 Q
    exact h1 rfl H2 (e.trans e2) Q fun v H3 e3 hv => q v H3 (e2.trans e3) hv
  | false =>
    show tb σ H2 Q
    exact h2 rfl H2 (e.trans e2) Q fun v H3 e3 hv => q v H3 (e2.trans e3) hv
theorem evd_call {sp : Sp} {E : XK} {vs : List V} (h : EvA tas σ H vs) (hs : ∀ H1, Ex H H1 → ∀ (Q : VK), RtD H1 d Q → ∀ E, sp vs H1 Q E) : EvD (tCall sp [] E tas) σ H d := fun H1 e Q q => h H1 e _ fun H2 e2 => by
  rw [List.append_nil]
  exact hs H2 (e.trans e2) Q (fun v H3 e3 hv => q v H3 (e2.trans e3) hv) E
theorem evd_callD {sp : Sp} {E : XK} {es : List PyData} (h : EvDA tas σ H es) (hs : ∀ H1 vs, Ex H H1 → DtA H1 vs es → ∀ (Q : VK), RtD H1 d Q → ∀ E, sp vs H1 Q E) : EvD (tCall sp [] E tas) σ H d := fun H1 e Q q => h H1 e _ fun vs H2 e2 hvs => by
  rw [List.append_nil]
  exact hs H2 vs (e.trans e2) hvs Q (fun v H3 e3 hv => q v H3 (e2.trans e3) hv) E
theorem s_retD (h : EvD te σ H d) (k : RtD H d D.rt) : tRet te D σ H := h H (Ex.refl H) _ fun v H1 e hv => k v H1 e hv
theorem s_asgD {i : Nat} (h : EvD te σ H d) (k : ∀ v H1, Ex H H1 → Dt H1 v d → D.nx (σ.set i (some v)) H1) : tAsg te (gName i) D σ H := h H (Ex.refl H) _ fun v H1 e hv => k v H1 e hv
theorem q_asgD {i : Nat} (h : EvD te σ H d) (k : ∀ v H1, Ex H H1 → Dt H1 v d → tz D (σ.set i (some v)) H1) : tSeq (tAsg te (gName i)) tz D σ H := s_asgD (D := { D with nx := tz D }) h k
theorem evd_ixT {p : Addr} {xs : List V} {i : Nat} {j : Int} (ha : Ev ta σ H (.ref p)) (hp : H p = some (.tup xs)) (hx : DtA H xs ds) (hb : Ev tb σ H (.int j)) (hj : j = (i : Int)) (hd : ds[i]? = some d) : EvD (tOp (rIxT K) ta tb) σ H d := by
  obtain ⟨v, hv, hdv⟩ := hx.get i d hd
  subst hj
  exact evd_of (ev_op ha hb (rv_ixT (st_of hp) (atI_nat hv))) hdv
theorem evd_ixL {p : Addr} {xs : List V} {i : Nat} {j : Int} (ha : Ev ta σ H (.ref p)) (hp : H p = some (.lst xs)) (hx : DtA H xs ds) (hb : Ev tb σ H (.int j)) (hj : j = (i : Int)) (hd : ds[i]? = some d) : EvD (tOp (rIxL K) ta tb) σ H d := by
  obtain ⟨v, hv, hdv⟩ := hx.get i d hd
  subst hj
  exact evd_of (ev_op ha hb (rv_ixL (sq_of hp) (atI_nat hv))) hdv
end
/-- strings as data -/
def okS (l : List Nat) : Bool := l.all fun c => decide (c < 1114112)
theorem canS {l : List Nat} (h : okS l = true) : PyData.canLay0 (.str (S l)) = true := by
  unfold PyData.canLay0 PyData.strOk
  rw [show (S l).cps = l.toArray from rfl]
  simpa [okS] using h
theorem eqv_str (a b : List Nat) : PyData.eqv (.str (S a)) (.str (S b)) = decide (a = b) := by
  unfold PyData.eqv
  by_cases h : a = b
  · subst h
    simp
  · rw [decide_eq_false h]
    exact beq_eq_false_iff_ne.mpr fun z => h (S_inj z)
end Kn
/-! ### sorted texts -/
namespace Kn
open PySem PySem.Spec PyProof.Rows L2 Evl SX
def leS (a b : Str) : Prop := a.cps.toList ≤ b.cps.toList
theorem rising_pw : ∀ (r : List Str) (x : Str), risingS x r = true → List.Pairwise leS (x :: r)
  | [], x, _ => by simp
  | y :: r, x, h => by
    unfold risingS at h
    rw [Bool.and_eq_true] at h
    have hxy : leS x y := List.not_lt.mp fun z => by
      have h1 := h.1
      rw [PyProof.Rows.ltCps_eq, decide_eq_true z] at h1
      cases h1
    have ih := rising_pw r y h.2
    refine List.pairwise_cons.mpr ⟨fun z hz => ?_, ih⟩
    rcases List.mem_cons.mp hz with e | e
    · rw [e]
      exact hxy
    · exact List.le_trans hxy ((List.pairwise_cons.mp ih).1 z e)
theorem sorted_pw {l : List Str} (h : sortedS l = true) : List.Pairwise leS l := by
  cases l with
  | nil => exact .nil
  | cons x r => exact rising_pw r x h
theorem sorted_uniq {l m : List Str} (h1 : sortedS l = true) (h2 : sortedS m = true) (p : l.Perm m) : l = m :=
  List.Perm.eq_of_pairwise (le := leS) (fun a b _ _ x y => TL.ext_tl (List.le_antisymm x y)) (sorted_pw h1) (sorted_pw h2) p
end Kn
namespace Kn
open PySem PySem.Spec PyProof.Rows L2 Evl SX
section
variable {K : PySem.W.Frag} {σ : L2.St} {H H' : Hp} {ta tb td ty te : TE} {t u : TT} {x y z v : V} {d p : Addr} {kvs : List (Key × V)} {k : List Nat}
theorem ev_dnotin (h2 : Ev ty σ H (.str (S k))) (h1 : Ev td σ H (.ref d)) (hd : H d = some (.dK kvs)) : Ev (tDNotIn ty td) σ H (.bl (!(valV kvs (Sum.inr (S k))).isSome)) := fun H1 e Q q =>
  h2 H1 e _ fun H2 e2 => h1 H2 (e.trans e2) _ fun H3 e3 => ⟨d, _, rfl, DGet.k (k := (Sum.inr (S k) : Key)) (((e.trans e2).trans e3) _ _ hd), q H3 (e2.trans e3)⟩
theorem et_dnotin (h2 : Ev ty σ H (.str (S k))) (h1 : Ev td σ H (.ref d)) (hd : H d = some (.dK kvs)) : EvT (tB (tDNotIn ty td)) σ H (!(valV kvs (Sum.inr (S k))).isSome) := et_B (ev_dnotin h2 h1 hd)
/-- text * int -/
theorem rv_mulS {l : List Nat} {n : Nat} (hn : n ≤ 100000) (hl : l.length ≤ 100) : RV rMulS (.str (S l)) (.int (n : Int)) H (.str (S (List.replicate n l).flatten)) := fun H1 _ _ q => ⟨l, n, rfl, rfl, hn, hl, q H1 (Ex.refl H1)⟩
theorem flat_one (n c : Nat) : (List.replicate n [c]).flatten = List.replicate n c := by
  induction n with
  | zero => rfl
  | succ n ih => rw [List.replicate_succ, List.flatten_cons, ih, List.replicate_succ]; rfl
theorem ev_mul1 {s : Str} {c n : Nat} {i : Int} (hs : s.cps.toList = [c]) (h : Ev te σ H (.int i)) (hi : i = (n : Int)) (hn : n ≤ 100000) : Ev (tOp rMulS (tC (.str s)) te) σ H (.str (S (List.replicate n c))) := by
  rw [← flat_one]
  subst hi
  exact ev_op (ev_cS hs) h (rv_mulS hn (by show 1 ≤ 100; decide))
end
end Kn
namespace Kn
open PySem PySem.Spec PyProof.Rows L2 Evl SX
section
variable {K : PySem.W.Frag} {i : Nat} {Wout : WX} {D : Ends} {c cls : Value} {ts : Addr → Value → Option Addr → TS} {l : List (Value × (Addr → Value → Option Addr → TS))} {d : Option Addr} {σ : L2.St} {H : Hp}
theorem many_hit (h : PySem.W.exmOne K cls c = some true) (k : ∀ a, H a = none → ts a cls d { nx := fun σ' H' => D.nx (σ'.set i none) H', rt := D.rt, bk := fun σ' H' => D.bk (σ'.set i none) H', ct := fun σ' H' => D.ct (σ'.set i none) H' } (σ.set i (some (.ref a))) H) :
    wManyAs K i Wout D ((c, ts) :: l) cls d σ H := ⟨true, h, (fun _ a na => k a na), (fun z => nomatch z)⟩
theorem many_skip (h : PySem.W.exmOne K cls c = some false) (k : wManyAs K i Wout D l cls d σ H) : wManyAs K i Wout D ((c, ts) :: l) cls d σ H := ⟨false, h, (fun z => nomatch z), fun _ => k⟩
theorem as_hit (h : PySem.W.exmOne K cls c = some true) (k : ∀ a, H a = none → ts a cls d { nx := fun σ' H' => D.nx (σ'.set i none) H', rt := D.rt, bk := fun σ' H' => D.bk (σ'.set i none) H', ct := fun σ' H' => D.ct (σ'.set i none) H' } (σ.set i (some (.ref a))) H) :
    wAs K c i ts Wout D cls d σ H := ⟨true, h, (fun _ a na => k a na), (fun z => nomatch z)⟩
end
end Kn
namespace Kn
open PySem PySem.Spec PyProof.Rows L2 Evl SX
mutual
theorem Dt.tups {H H1 : Hp} (e : ∀ q xs, H q = some (.tup xs) → H1 q = some (.tup xs)) : ∀ {v : V} {d : PyData}, Dt H v d → noL d = true → Dt H1 v d
  | _, _, .non, _ => .non
  | _, _, .bl b, _ => .bl b
  | _, _, .int i, _ => .int i
  | _, _, .str x, _ => .str x
  | _, _, .lst _ _, n => by
    unfold noL at n
    cases n
  | _, _, .tup h r, n => by
    unfold noL at n
    exact .tup (e _ _ h) (DtA.tups e r n)
theorem DtA.tups {H H1 : Hp} (e : ∀ q xs, H q = some (.tup xs) → H1 q = some (.tup xs)) : ∀ {vs : List V} {ds : List PyData}, DtA H vs ds → noLA ds = true → DtA H1 vs ds
  | _, _, .nil, _ => .nil
  | _, _, .cons h r, n => by
    unfold noLA at n
    rw [Bool.and_eq_true] at n
    exact .cons (Dt.tups e h n.1) (DtA.tups e r n.2)
end
end Kn
namespace Kn
open PySem PySem.Spec PyProof.Rows L2 Evl SX
theorem Paired.unmap {α β γ : Type} {F : α → γ → Prop} {u : β → γ} : ∀ {as : List α} {bs : List β}, Paired F as (bs.map u) → Paired (fun a b => F a (u b)) as bs
  | _, [], .nil => .nil
  | _, b :: bs, .cons h t => .cons h (Paired.unmap t)
end Kn
/-! ### sorted(d), text keys, any number -/
namespace Kn
open PySem PySem.Spec PyProof.Rows L2 Evl SX
def rSortDA (K : PySem.W.Frag) : List V → Hp → VK → Prop := fun xs H Q => ∃ (a : Addr) (kvs : List (Key × V)) (ks : List Str), xs = [.ref a] ∧ Rd H a (.dK kvs) ∧ kvs.map (·.1) = ks.map Sum.inr ∧ ks.length ≤ 100000 ∧ ∀ ys p, ys.Perm ks → sortedS ys = true → H p = none → Q (.ref p) (L2.upd H p (.lst (ys.map V.str)))
theorem cr_sortDA {X : Cx} (hcalm : X.calm = true) : CallR X (.builtin "sorted") (rSortDA X.K) := by
  intro pins s σ H xs us Q I r q
  obtain ⟨a, kvs, ks, ex, hd, hks, h64, q⟩ := q
  subst ex
  obtain ⟨u, eu, rx⟩ := vals1 r
  subst eu
  cases rx
  obtain ⟨z, lo, vs, rel, dd⟩ := dk_rd I.hok hd
  obtain ⟨ep, hat⟩ := dd.dictAt
  have hkeys : vs.map (·.1) = ks.map Sum.inr := rel.keys.symm.trans hks
  have hl : vs.length = ks.length := by
    have e := congrArg List.length hkeys
    rw [List.length_map, List.length_map] at e
    exact e
  have h16 : vs.length ≤ sizeLine := by rw [hl, sizeLine_eq]; omega
  refine Calls.call_function_entry PyProof.Rows.kind_sorted PyProof.Rows.plain_sorted PyProof.Rows.entry_sorted (PyProof.Rows.args_sorted1 _) ?_
  unfold Builtin.«sorted»
  refine wpAny_bind (m := checkCount "sorted" 1 1 _) (wpAny_pure ?_)
  refine wpAny_bind (PySem.W.kdu_collect (A := X.A.in1) (PySem.W.kdl_dict (knd := mixKind X.prog X.w) (kvs := vs) (ep := ep) lo) (I.ok.hd hcalm) hat h16 fun h' tk acc hk hacc => ?_)
  have hal : acc.toList.length = ks.length := by rw [Array.length_toList, hacc.1, hl]
  have hS : StrsAre acc.toList ks := strs_at hal fun j v e => by
    obtain ⟨k, x, e1, e2⟩ := hacc.2 j v (by rw [← Array.getElem?_toList]; exact e)
    have e3 : (vs.map (·.1))[j]? = some k := by rw [List.getElem?_map, e1]; all_goals rfl
    rw [hkeys, List.getElem?_map] at e3
    cases e4 : ks[j]? with
    | none => rw [e4] at e3; cases e3
    | some y =>
      rw [e4] at e3
      have e5 : Sum.inr y = k := Option.some.inj e3
      subst e5
      obtain ⟨t, ev⟩ := Value.isStrOf_shape (x := y) (v := v) e2
      exact ⟨y, t, rfl, ev⟩
  have I1 : Inv X pins σ H { s with heap := h', toks := tk } := I.kept hk
  refine wpAny_bind (wpAny_newList ?_ (by rw [hal, sizeLine_eq]; omega))
  have hoL : (h'.push (seqObj "list" acc.toList.toArray 0)).get? h'.objs.size = some (seqObj "list" acc.toList.toArray 0) := Heap.get?_push_size _ rfl
  show wpAny _ _ _ _ _ { s with heap := h'.push (seqObj "list" acc.toList.toArray 0), toks := tk }
  refine wpAny_bind (wpAny_holding (wpAny_call_entry PyProof.Rows.slot_list_sort ⟨_, hoL, rfl⟩ PyProof.Rows.entry_list_sort
    (list_sort_treeKAny strKind_oneLt (s := { s with heap := h'.push (seqObj "list" acc.toList.toArray 0), toks := tk }) hoL hS.keysOf (fun v₁ v₂ rest e => keyKind_strs (by rw [← e]; exact hS)) (by rw [hal, sizeLine_eq]; omega) fun st' hp hs => ⟨_, rfl, ?_⟩)
    (PyProof.Rows.args_list_sort _)))
  obtain ⟨ys, g1, g2, g3⟩ := sorted_out_str hS hp hs
  obtain ⟨e', he'⟩ := PyProof.Rows.sortedHeap_at (vs := acc.toList) (out := (arrOf st').map (·.2)) hoL
  have hlen : (ys.map V.str).length ≤ sizeLine := by
    rw [List.length_map, g2.length_eq]
    exact Evl.sz_of h64
  refine wpAny_pure ⟨_, rfl, .ref h'.objs.size, L2.upd H h'.objs.size (.lst (ys.map V.str)), I1.laid (t' := tk) (fun b u e => ?_) (Nat.le_refl _)
    (show ObjOk X.prog X.w _ _ _ (.lst (ys.map V.str)) from ⟨hlen, ((arrOf st').map (·.2)).toList, e', vals_of_strs g1, by rw [Array.toArray_toList]; exact he'⟩), rfl, q ys _ g2 g3 (I1.hok.fresh (Nat.le_refl _))⟩
  have hb : b < h'.objs.size := Heap.lt_size e
  rw [PyProof.Rows.sortedHeap_old (Nat.ne_of_lt hb) (by rw [size_push']; exact Nat.lt_succ_of_lt hb)]
  exact Heap.get?_push_of_some _ e
end Kn
namespace Kn
open PySem PySem.Spec PyProof.Rows L2 Evl SX
def rLenD : List V → Hp → VK → Prop := fun xs H Q => ∃ d kvs, xs = [.ref d] ∧ H d = some (.dK kvs) ∧ Q (.int kvs.length) H
theorem cr_lenD {X : Cx} : CallR X (.builtin "len") rLenD := call_lenD
theorem ev_lenD {σ : L2.St} {H : Hp} {td : TE} {d : Addr} {kvs : List (Key × V)} (h : Ev td σ H (.ref d)) (hd : H d = some (.dK kvs)) : Ev (tCB rLenD (tCons td tNil)) σ H (.int (kvs.length : Int)) := fun H1 e Q q => h H1 e _ fun H2 e2 => ⟨d, kvs, rfl, (e.trans e2) _ _ hd, q H2 e2⟩
end Kn
namespace Kn
open PySem PySem.Spec PyProof.Rows L2 Evl SX
section
variable {K : PySem.W.Frag} {σ : L2.St} {H : Hp} {te : TE}
/-- n % m, n // m of naturals; a sign and a number -/
theorem ev_mod {n m : Nat} {k : Int} (h : Ev te σ H (.int (n : Int))) (hk : k = (m : Int)) (hm : 0 < m) : Ev (tOp (rI (fun _ j => 0 < j) fun i j => .int (i % j)) te (tC (.int k))) σ H (.int ((n % m : Nat) : Int)) := by
  subst hk
  rw [Int.natCast_emod]
  exact ev_op h ev_c (rv_mod (by omega))
theorem ev_div {n m : Nat} {k : Int} (h : Ev te σ H (.int (n : Int))) (hk : k = (m : Int)) (hm : 0 < m ∧ m < 1073741824) : Ev (tOp (rI CDiv fun i j => .int (i / j)) te (tC (.int k))) σ H (.int ((n / m : Nat) : Int)) := by
  subst hk
  rw [Int.natCast_ediv]
  exact ev_op h ev_c (rv_fdiv ⟨by omega, by omega⟩)
theorem ev_nm {s : Str} {n : Nat} {c : Nat} (hs : s.cps.toList = [c]) (hn : n < 1000) (h : Ev te σ H (.int (n : Int))) : Ev (tOp rAddS (tC (.str s)) (tCB rStrInt (tCons te tNil))) σ H (.str (S ([c] ++ TL.numL n))) := by
  have hl : (TL.numL n).length ≤ 3 := by
    have z : ∀ m < 1000, (TL.numL m).length ≤ 3 := by decide +kernel
    exact z n hn
  exact ev_op (ev_cS hs) (ev_strInt h hn) (rv_addS (by rw [List.length_singleton]; omega))
theorem et_eqN {n m : Nat} {k : Int} (h : Ev te σ H (.int (n : Int))) (hk : k = (m : Int)) : EvT (tTest (tOp rEq te (tC (.int k)))) σ H (decide (n = m)) := by
  subst hk
  exact et_is (et_test (ev_op h ev_c rv_eqI)) (by rw [decide_eq_decide]; omega)
theorem ev_eqN {n m : Nat} {k : Int} (h : Ev te σ H (.int (n : Int))) (hk : k = (m : Int)) : Ev (tOp rEq te (tC (.int k))) σ H (.bl (decide (n = m))) := by
  subst hk
  exact ev_is (ev_op h ev_c rv_eqI) (by rw [show decide ((n : Int) = (m : Int)) = decide (n = m) from by rw [decide_eq_decide]; omega])
theorem et_ltN {n m : Nat} {k : Int} (h : Ev te σ H (.int (n : Int))) (hk : k = (m : Int)) : EvT (tTest (tOp (rI0 fun i j => .bl (decide (i < j))) te (tC (.int k)))) σ H (decide (n < m)) := by
  subst hk
  exact et_is (et_test (ev_op h ev_c rv_lt)) (by rw [decide_eq_decide]; omega)
end
theorem shaped_tup {ds : List PyData} (h : PyData.canLayAll0 ds = true) (hd : PyData.depth (.tuple ds) ≤ 64) : SeqAt.shaped (.tuple ds) = true := by
  show (PyData.canLayAll0 ds && decide (PyData.depth (.tuple ds) ≤ 64)) = true
  rw [h, decide_eq_true hd]
  rfl
theorem shaped_lst {ds : List PyData} (h : PyData.canLayAll0 ds = true) (hd : PyData.depth (.list ds) ≤ 64) : SeqAt.shaped (.list ds) = true := by
  show (PyData.canLayAll0 ds && decide (PyData.depth (.list ds) ≤ 64)) = true
  rw [h, decide_eq_true hd]
  rfl
theorem can_cons {d : PyData} {ds : List PyData} (h : PyData.canLay0 d = true) (r : PyData.canLayAll0 ds = true) : PyData.canLayAll0 (d :: ds) = true := by
  show (PyData.canLay0 d && PyData.canLayAll0 ds) = true
  rw [h, r]
  rfl
theorem can_nil : PyData.canLayAll0 [] = true := rfl
theorem eqv_self {d : PyData} (h : SeqAt.shaped d = true) : PyData.eqv d d = true := SeqAt.eqv_refl _ (SeqAt.canLay_of_shaped h)
theorem canL_strs : ∀ {ys : List Str}, (∀ y ∈ ys, okS y.cps.toList = true) → PyData.canLayAll0 (ys.map .str) = true
  | [], _ => rfl
  | y :: r, h => by
    have e : y = S y.cps.toList := by
      refine TL.ext_tl ?_
      rfl
    rw [List.map_cons]
    refine can_cons ?_ (canL_strs fun z hz => h z (List.mem_cons_of_mem _ hz))
    rw [e]
    exact canS (h y List.mem_cons_self)
theorem depth_strs : ∀ ys : List Str, PyData.depthAll (ys.map .str) = 0
  | [] => rfl
  | y :: r => by
    show max 0 (PyData.depthAll (r.map .str)) = 0
    rw [depth_strs r]
    rfl
theorem shaped_strs {ys : List Str} (h : ∀ y ∈ ys, okS y.cps.toList = true) : SeqAt.shaped (.list (ys.map .str)) = true := by
  show (PyData.canLayAll0 (ys.map .str) && decide (PyData.depthAll (ys.map .str) + 1 ≤ 64)) = true
  rw [canL_strs h, depth_strs]
  rfl
theorem dta_strs {H : Hp} : ∀ ys : List Str, DtA H (ys.map V.str) (ys.map .str)
  | [] => .nil
  | y :: r => .cons (.str y) (dta_strs r)
/-- the part of a try that returns (word, o.m(..)) -/
theorem done_ret {C p dx : Addr} {m : Str} {sp : Sp} {W : WX} {fs : List (Str × V)} {σ : L2.St} {H : Hp} {D : Ends} {tA : TA} {vs : List V} {word : Str} (hσ : σ[0]? = some (some (.ref p))) (ho : H p = some (.ins C dx fs)) (hm : fs.lookup m = none) (hA : EvA tA σ H vs)
    (hs : ∀ H1, Ex H H1 → sp (.ref p :: vs) H1 (fun v H2 => [V.str word, v].length ≤ sizeLine ∧ ∀ q, H2 q = none → D.rt (.ref q) (L2.upd H2 q (.tup [.str word, v]))) (WE W σ)) :
    tRet (tTup (tCons (tC (.str word)) (tCons (tMethX C m sp (WE W) (tVar 0) tA) tNil))) D σ H :=
  ⟨_, hσ, p, dx, fs, rfl, ho, hm, hA H (Ex.refl _) _ fun H1 e1 => hs H1 e1⟩
end Kn

namespace My
open PySem PySem.Spec PyProof.Rows L2 Evl SX Kn
def topS (i : Nat) : Stmt := PySem.Challenge.pw_kilnyard_k09_full_trees.main.body.getD i (.Pass ⟨0, 0, 0, 0⟩)
abbrev s__wall : Stmt := topS 0
abbrev N__wall : List Str := ["k"]
theorem sc__wall : FnScope N__wall ["k"] (defScope s__wall) := ⟨rfl, rfl, rfl, by decide +kernel, rfl, by decide +kernel, by decide +kernel⟩
abbrev s_is_text : Stmt := topS 13
abbrev N_is_text : List Str := ["value", "sign"]
theorem sc_is_text : FnScope N_is_text ["value"] (defScope s_is_text) := ⟨rfl, rfl, rfl, by decide +kernel, rfl, by decide +kernel, by decide +kernel⟩
abbrev s_is_content : Stmt := topS 14
abbrev N_is_content : List Str := ["value"]
theorem sc_is_content : FnScope N_is_content ["value"] (defScope s_is_content) := ⟨rfl, rfl, rfl, by decide +kernel, rfl, by decide +kernel, by decide +kernel⟩
abbrev s__is_code : Stmt := topS 15
abbrev N__is_code : List Str := ["code"]
theorem sc__is_code : FnScope N__is_code ["code"] (defScope s__is_code) := ⟨rfl, rfl, rfl, by decide +kernel, rfl, by decide +kernel, by decide +kernel⟩
abbrev s_is_path : Stmt := topS 20
abbrev N_is_path : List Str := ["value", "names", "name"]
theorem sc_is_path : FnScope N_is_path ["value"] (defScope s_is_path) := ⟨rfl, rfl, rfl, by decide +kernel, rfl, by decide +kernel, by decide +kernel⟩
abbrev s__is_name : Stmt := topS 21
abbrev N__is_name : List Str := ["name", "sign"]
theorem sc__is_name : FnScope N__is_name ["name"] (defScope s__is_name) := ⟨rfl, rfl, rfl, by decide +kernel, rfl, by decide +kernel, by decide +kernel⟩
abbrev s__is_persons : Stmt := topS 25
abbrev N__is_persons : List Str := ["entry"]
theorem sc__is_persons : FnScope N__is_persons ["entry"] (defScope s__is_persons) := ⟨rfl, rfl, rfl, by decide +kernel, rfl, by decide +kernel, by decide +kernel⟩
abbrev s__law_cell : Stmt := topS 27
abbrev N__law_cell : List Str := ["script", "k"]
theorem sc__law_cell : FnScope N__law_cell ["script", "k"] (defScope s__law_cell) := ⟨rfl, rfl, rfl, by decide +kernel, rfl, by decide +kernel, by decide +kernel⟩
abbrev s__law_personal : Stmt := topS 28
abbrev N__law_personal : List Str := ["tree", "path", "is_link", "e"]
theorem sc__law_personal : FnScope N__law_personal ["tree", "path", "is_link"] (defScope s__law_personal) := ⟨rfl, rfl, rfl, by decide +kernel, rfl, by decide +kernel, by decide +kernel⟩
abbrev s_law : Stmt := topS 29
abbrev N_law : List Str := ["script", "tree", "first", "count", "persons", "k", "cell", "path", "is_link", "actual", "personal"]
theorem sc_law : FnScope N_law ["script"] (defScope s_law) := ⟨rfl, rfl, rfl, by decide +kernel, rfl, by decide +kernel, by decide +kernel⟩
abbrev s_InvalidPath___init__ : Stmt := inClass (topS 3) 0
abbrev N_InvalidPath___init__ : List Str := ["self", "path"]
theorem sc_InvalidPath___init__ : FnScope N_InvalidPath___init__ ["self", "path"] (defScope s_InvalidPath___init__) := ⟨rfl, rfl, rfl, by decide +kernel, rfl, by decide +kernel, by decide +kernel⟩
abbrev s_InvalidContent___init__ : Stmt := inClass (topS 4) 0
abbrev N_InvalidContent___init__ : List Str := ["self", "path"]
theorem sc_InvalidContent___init__ : FnScope N_InvalidContent___init__ ["self", "path"] (defScope s_InvalidContent___init__) := ⟨rfl, rfl, rfl, by decide +kernel, rfl, by decide +kernel, by decide +kernel⟩
abbrev s_NoEntry___init__ : Stmt := inClass (topS 5) 0
abbrev N_NoEntry___init__ : List Str := ["self", "path"]
theorem sc_NoEntry___init__ : FnScope N_NoEntry___init__ ["self", "path"] (defScope s_NoEntry___init__) := ⟨rfl, rfl, rfl, by decide +kernel, rfl, by decide +kernel, by decide +kernel⟩
abbrev s_TreeFull___init__ : Stmt := inClass (topS 6) 0
abbrev N_TreeFull___init__ : List Str := ["self", "path"]
theorem sc_TreeFull___init__ : FnScope N_TreeFull___init__ ["self", "path"] (defScope s_TreeFull___init__) := ⟨rfl, rfl, rfl, by decide +kernel, rfl, by decide +kernel, by decide +kernel⟩
abbrev s_Tree___init__ : Stmt := inClass (topS 24) 0
abbrev N_Tree___init__ : List Str := ["self"]
theorem sc_Tree___init__ : FnScope N_Tree___init__ ["self"] (defScope s_Tree___init__) := ⟨rfl, rfl, rfl, by decide +kernel, rfl, by decide +kernel, by decide +kernel⟩
abbrev s_Tree_write : Stmt := inClass (topS 24) 1
abbrev N_Tree_write : List Str := ["self", "path", "text", "by"]
theorem sc_Tree_write : FnScope N_Tree_write ["self", "path", "text", "by"] (defScope s_Tree_write) := ⟨rfl, rfl, rfl, by decide +kernel, rfl, by decide +kernel, by decide +kernel⟩
abbrev s_Tree_link : Stmt := inClass (topS 24) 2
abbrev N_Tree_link : List Str := ["self", "path", "target"]
theorem sc_Tree_link : FnScope N_Tree_link ["self", "path", "target"] (defScope s_Tree_link) := ⟨rfl, rfl, rfl, by decide +kernel, rfl, by decide +kernel, by decide +kernel⟩
abbrev s_Tree_erase : Stmt := inClass (topS 24) 3
abbrev N_Tree_erase : List Str := ["self", "path"]
theorem sc_Tree_erase : FnScope N_Tree_erase ["self", "path"] (defScope s_Tree_erase) := ⟨rfl, rfl, rfl, by decide +kernel, rfl, by decide +kernel, by decide +kernel⟩
abbrev s_Tree_kind : Stmt := inClass (topS 24) 4
abbrev N_Tree_kind : List Str := ["self", "path", "entry"]
theorem sc_Tree_kind : FnScope N_Tree_kind ["self", "path"] (defScope s_Tree_kind) := ⟨rfl, rfl, rfl, by decide +kernel, rfl, by decide +kernel, by decide +kernel⟩
abbrev s_Tree_read : Stmt := inClass (topS 24) 5
abbrev N_Tree_read : List Str := ["self", "path"]
theorem sc_Tree_read : FnScope N_Tree_read ["self", "path"] (defScope s_Tree_read) := ⟨rfl, rfl, rfl, by decide +kernel, rfl, by decide +kernel, by decide +kernel⟩
abbrev s_Tree_writer : Stmt := inClass (topS 24) 6
abbrev N_Tree_writer : List Str := ["self", "path"]
theorem sc_Tree_writer : FnScope N_Tree_writer ["self", "path"] (defScope s_Tree_writer) := ⟨rfl, rfl, rfl, by decide +kernel, rfl, by decide +kernel, by decide +kernel⟩
abbrev s_Tree_target : Stmt := inClass (topS 24) 7
abbrev N_Tree_target : List Str := ["self", "path"]
theorem sc_Tree_target : FnScope N_Tree_target ["self", "path"] (defScope s_Tree_target) := ⟨rfl, rfl, rfl, by decide +kernel, rfl, by decide +kernel, by decide +kernel⟩
abbrev s_Tree_resolve : Stmt := inClass (topS 24) 8
abbrev N_Tree_resolve : List Str := ["self", "path"]
theorem sc_Tree_resolve : FnScope N_Tree_resolve ["self", "path"] (defScope s_Tree_resolve) := ⟨rfl, rfl, rfl, by decide +kernel, rfl, by decide +kernel, by decide +kernel⟩
abbrev s_Tree_paths : Stmt := inClass (topS 24) 9
abbrev N_Tree_paths : List Str := ["self"]
theorem sc_Tree_paths : FnScope N_Tree_paths ["self"] (defScope s_Tree_paths) := ⟨rfl, rfl, rfl, by decide +kernel, rfl, by decide +kernel, by decide +kernel⟩
abbrev s_Tree_twin : Stmt := inClass (topS 24) 10
abbrev N_Tree_twin : List Str := ["self"]
theorem sc_Tree_twin : FnScope N_Tree_twin ["self"] (defScope s_Tree_twin) := ⟨rfl, rfl, rfl, by decide +kernel, rfl, by decide +kernel, by decide +kernel⟩
abbrev s_Tree__has_room : Stmt := inClass (topS 24) 11
abbrev N_Tree__has_room : List Str := ["self", "path", "persons", "entry"]
theorem sc_Tree__has_room : FnScope N_Tree__has_room ["self", "path"] (defScope s_Tree__has_room) := ⟨rfl, rfl, rfl, by decide +kernel, rfl, by decide +kernel, by decide +kernel⟩
structure Tx (mg : Str → Option Value) : Prop where
  b_abs : mg "abs" = none
  b_all : mg "all" = none
  b_int : mg "int" = none
  b_isinstance : mg "isinstance" = none
  b_len : mg "len" = none
  b_ord : mg "ord" = none
  b_range : mg "range" = none
  b_sorted : mg "sorted" = none
  b_str : mg "str" = none
  c_CONTENT_LENGTH : ∃ u, mg "CONTENT_LENGTH" = some u ∧ RelV (.int 400) u
  c_NEWLINE : ∃ u, mg "NEWLINE" = some u ∧ RelV (.int 10) u
  c_SPACE : ∃ u, mg "SPACE" = some u ∧ RelV (.int 32) u
  c_PERCENT : ∃ u, mg "PERCENT" = some u ∧ RelV (.int 37) u
  c_TILDE : ∃ u, mg "TILDE" = some u ∧ RelV (.int 126) u
  c_MOST_NAMES : ∃ u, mg "MOST_NAMES" = some u ∧ RelV (.int 4) u
  c_NAME_LENGTH : ∃ u, mg "NAME_LENGTH" = some u ∧ RelV (.int 12) u
  c_NAME_SIGNS : ∃ u, mg "NAME_SIGNS" = some u ∧ RelV (.str (Str.ofString "abcdefghijklmnopqrstuvwxyz0123456789_.")) u
  c_MOST_PERSONS_ENTRIES : ∃ u, mg "MOST_PERSONS_ENTRIES" = some u ∧ RelV (.int 60) u
structure Gx (K : PySem.W.Frag) (mg : Str → Option Value) where
  c_BuildError : Addr
  g_BuildError : mg "BuildError" = some (.ref c_BuildError)
  b_BuildError : Kn.BaseC K c_BuildError
  c_InvalidPath : Addr
  g_InvalidPath : mg "InvalidPath" = some (.ref c_InvalidPath)
  x_InvalidPath : Kn.Xc K c_InvalidPath c_BuildError
  n_InvalidPath_path : PySem.W.findIn K (.ref c_InvalidPath) "path" = some none
  c_InvalidContent : Addr
  g_InvalidContent : mg "InvalidContent" = some (.ref c_InvalidContent)
  x_InvalidContent : Kn.Xc K c_InvalidContent c_BuildError
  n_InvalidContent_path : PySem.W.findIn K (.ref c_InvalidContent) "path" = some none
  c_NoEntry : Addr
  g_NoEntry : mg "NoEntry" = some (.ref c_NoEntry)
  x_NoEntry : Kn.Xc K c_NoEntry c_BuildError
  n_NoEntry_path : PySem.W.findIn K (.ref c_NoEntry) "path" = some none
  c_TreeFull : Addr
  g_TreeFull : mg "TreeFull" = some (.ref c_TreeFull)
  x_TreeFull : Kn.Xc K c_TreeFull c_BuildError
  n_TreeFull_path : PySem.W.findIn K (.ref c_TreeFull) "path" = some none
  k_TreeFull_NoEntry : PySem.W.kitOne K (.ref c_TreeFull) (.ref c_NoEntry) = some false
local macro_rules | `(tactic| walk_at "ev") => `(tactic| first
  | exact ev_c
  | exact ev_var rfl
  | exact ea_nil
  | exact eo_none
  | (apply eo_some; walk_at "ev")
  | (apply ea_cons <;> walk_at "ev")
  | (apply ev_op <;> first | walk_at "rv" | walk_at "ev")
  | (apply ev_un <;> first | exact ru_neg | walk_at "ev")
  | (apply ev_chain <;> first | walk_at "rv" | walk_at "ev")
  | (apply et_test; walk_at "ev")
  | (apply et_B; walk_at "ev")
  | (apply et_not; walk_at "ev")
  | (apply et_and; walk_at "ev"; intro _; walk_at "ev")
  | (apply et_or; walk_at "ev"; intro _; walk_at "ev")
  | (apply ev_andV; walk_at "ev"; intro _; walk_at "ev")
  | (apply ev_orV; walk_at "ev"; intro _; walk_at "ev")
  | (apply ev_notV; walk_at "ev")
  | (apply ev_cb <;> first | walk_at "rc" | walk_at "ev"))
local macro_rules | `(tactic| walk_at "rv") => `(tactic| first
  | exact rv_eqI | exact rv_neI | exact rv_eqS | exact rv_neS | exact rv_le | exact rv_lt | exact rv_ge | exact rv_gt | exact rv_inS | exact rv_ninS
  | exact rv_I0
  | exact rv_pow ⟨by decide, by decide, by decide⟩
  | exact rv_mod (by first | decide | omega)
  | exact rv_fdiv ⟨by decide, by decide⟩
  | exact rv_fdiv ⟨by omega, by omega⟩
  | exact rv_addS (by first | assumption | omega)
  | exact rv_mul (.inr ⟨by decide, by decide⟩) | exact rv_mul (.inl ⟨by decide, by decide⟩)
  | exact rv_mul (by first | exact .inl ⟨by omega, by omega⟩ | exact .inr ⟨by omega, by omega⟩)
  | exact rv_eq rfl | exact rv_ne rfl)
local macro_rules | `(tactic| walk_at "rc") => `(tactic| first
  | exact rc_abs | exact rc_int | exact rc_intB | exact rc_ord
  | exact rc_lenS (by first | assumption | omega))

/-! ### texts -/
def isCode (n : Int) : Bool := decide (n = 10) || ((decide (32 ≤ n) && decide (n ≤ 126)) && !decide (n = 37))
def okText (l : List Nat) : Bool := l.all fun c => isCode (c : Int)
section
variable {P : Program} {w : World} {K : PySem.W.Frag} {mg : Str → Option Value} {base : Heap}
def sp__is_code (_ : PySem.W.Frag) : Sp := sp1 (fun n : Int => [.int n]) (fun _ _ => True) (fun n => .bl (isCode n))
theorem ok__is_code {f : Addr} {fd : FuncData} (F : Fun K "_is_code" "_is_code" s__is_code f fd) (T : Tx mg) (G : Gx K mg)  : FnOk P w K mg base CX0 1 f fd ["code"] (sp__is_code K) := by
  refine F.ok sc__is_code (fun vs H Q E h => ?_) (fun cdv A outer s H vs Q E hr h => ?_)
  · obtain ⟨n, rfl, _⟩ := h
    rfl
  · obtain ⟨n, rfl, -, q⟩ := h
    refine ⟨_, (pss_one (ps_ret (pe_or (pe_cmpR op_eq (pv 0) (C8.pe_gc (by rfl) T.c_NEWLINE) (nomark _)) (pe_one (pe_and (pe_chain op_le op_le (C8.pe_gc (by rfl) T.c_SPACE) (pv 0) (C8.pe_gc (by rfl) T.c_TILDE)) (pe_one (pe_cmpR op_ne (pv 0) (C8.pe_gc (by rfl) T.c_PERCENT) (nomark _)))))))), ?_⟩
    apply s_ret
    · walk_at "ev"
    · exact q
def sp_is_text (_ : PySem.W.Frag) : Sp := sp1 (fun l : List Nat => [.str (S l)]) (fun l _ => l.length ≤ 40000) (fun l => .bl (okText l))
theorem ok_is_text {f : Addr} {fd : FuncData} (F : Fun K "is_text" "is_text" s_is_text f fd) (T : Tx mg) (G : Gx K mg) (C__is_code : Kn.Cl P w K mg base 1 "_is_code" (sp__is_code K)) : FnOk P w K mg base CX0 2 f fd ["value"] (sp_is_text K) := by
  refine F.ok sc_is_text (fun vs H Q E h => ?_) (fun cdv A outer s H vs Q E hr h => ?_)
  · obtain ⟨l, rfl, _⟩ := h
    rfl
  · obtain ⟨l, rfl, hl, q⟩ := h
    refine ⟨_, (pss_one (ps_ret (pe_callB (cr_all rfl) (by rfl) T.b_all (by decide +kernel) (pa_cons (pe_lc (own := [("sign", 1)]) rfl sc_is_text.nd (pi_str (pv 0)) (blkOk_by (own := [("sign", 1)]) (N := N_is_text) (sc := defScope s_is_text) (by decide +kernel)) (fun _ _ _ _ _ => pg_name (i := 1) sc_is_text.nd rfl (Or.inl rfl)) (fun _ _ _ _ _ => pts_nil) (fun _ _ _ _ _ => (Kn.pe_cl C__is_code hr (by decide) (by rfl) (pa_cons (pe_callB Kn.cr_ord (by rfl) T.b_ord (by decide +kernel) (pa_cons (pv 1) pa_nil)) pa_nil)))) pa_nil)))), ?_⟩
    refine s_ret (v := .bl (okText l)) (ev_all (p := fun c : Nat => isCode (c : Int)) (el_lcS (ev_var rfl) hl (fun _ => rfl) fun c hc H1 e1 => ?_)) q
    exact ev_c1 (a := (c : Int)) (by walk_at "ev") (fun _ _ => trivial)
def sp_is_content (_ : PySem.W.Frag) : Sp := sp1 (fun l : List Nat => [.str (S l)]) (fun l _ => l.length ≤ 40000) (fun l => .bl (decide ((l.length : Int) ≤ 400) && okText l))
theorem ok_is_content {f : Addr} {fd : FuncData} (F : Fun K "is_content" "is_content" s_is_content f fd) (T : Tx mg) (G : Gx K mg) (C_is_text : Kn.Cl P w K mg base 2 "is_text" (sp_is_text K)) : FnOk P w K mg base CX0 3 f fd ["value"] (sp_is_content K) := by
  refine F.ok sc_is_content (fun vs H Q E h => ?_) (fun cdv A outer s H vs Q E hr h => ?_)
  · obtain ⟨l, rfl, _⟩ := h
    rfl
  · obtain ⟨l, rfl, hl, q⟩ := h
    refine ⟨_, (pss_one (ps_ret (pe_and (pe_cmpR op_le (pe_callB Kn.cr_lenStr (by rfl) T.b_len PySem.boot_len (pa_cons (pv 0) pa_nil)) (C8.pe_gc (by rfl) T.c_CONTENT_LENGTH) (nomark _)) (pe_one (Kn.pe_cl C_is_text hr (by decide) (by rfl) (pa_cons (pv 0) pa_nil)))))), ?_⟩
    refine s_ret (ev_andV (by walk_at "ev") fun _ => ev_c1 (a := l) (by walk_at "ev") (fun _ _ => hl)) q
end

/-! ### names and paths -/
def NS : List Nat := (Str.ofString "abcdefghijklmnopqrstuvwxyz0123456789_.").cps.toList
def nameOk (G n : List Nat) : Bool := !(!(decide (1 ≤ (n.length : Int)) && decide ((n.length : Int) ≤ 12)) || decide (n[0]? = some 46)) && n.all fun c => decide (c ∈ G)
def pathOk (l : List Nat) : Bool := decide (((cut1 47 l).length : Int) ≤ 4) && (cut1 47 l).all (nameOk NS)
section
variable {P : Program} {w : World} {K : PySem.W.Frag} {mg : Str → Option Value} {base : Heap}
def sp__is_name (_ : PySem.W.Frag) : Sp := sp1 (fun l : List Nat => [.str (S l)]) (fun l _ => l.length ≤ 40000) (fun l => .bl (nameOk NS l))
theorem ok__is_name {f : Addr} {fd : FuncData} (F : Fun K "_is_name" "_is_name" s__is_name f fd) (T : Tx mg) (G : Gx K mg)  : FnOk P w K mg base CX0 1 f fd ["name"] (sp__is_name K) := by
  refine F.ok sc__is_name (fun vs H Q E h => ?_) (fun cdv A outer s H vs Q E hr h => ?_)
  · obtain ⟨l, rfl, _⟩ := h
    rfl
  · obtain ⟨l, rfl, hl, q⟩ := h
    refine ⟨_, (pss_cons (ps_if (PW.pt (pw_or (pt_not (pt_chain op_le op_le pe_int (pe_callB Kn.cr_lenStr (by rfl) T.b_len PySem.boot_len (pa_cons (pv 0) pa_nil)) (C8.pe_gc (by rfl) T.c_NAME_LENGTH))) (pw_or1 (pt_val (pe_m1 PySem.F.slot_str_startswith PySem.F.type_str_startswith Kn.mt_startswith (pv 0) pe_str))))) (pss_one (ps_ret pe_bl)) pss_nil)
      (pss_one (ps_ret (pe_callB (cr_all rfl) (by rfl) T.b_all (by decide +kernel) (pa_cons (pe_lc (own := [("sign", 1)]) rfl sc__is_name.nd (pi_str (pv 0)) (blkOk_by (own := [("sign", 1)]) (N := N__is_name) (sc := defScope s__is_name) (by decide +kernel)) (fun _ _ _ _ _ => pg_name (i := 1) sc__is_name.nd rfl (Or.inl rfl)) (fun _ _ _ _ _ => pts_nil) (fun _ _ _ _ _ => (pe_cmpR op_inS (pv 1) (C8.pe_gc (by rfl) T.c_NAME_SIGNS) rfl))) pa_nil))))), ?_⟩
    refine q_when (b := !(decide (1 ≤ (l.length : Int)) && decide ((l.length : Int) ≤ 12)) || decide (l[0]? = some 46)) (et_or (et_not (et_test (ev_chain ev_c (ev_cb (ea_cons (ev_var rfl) ea_nil) (rc_lenS (by omega))) rv_le ev_c rv_le))) fun _ => et_B (ev_starts (c := 46) (ev_var rfl) (ev_cS rfl))) (fun hb H1 e1 => ?_) (fun hb H1 e1 => ?_)
    · refine s_ret ev_c fun H2 e2 => ?_
      have z : Q (.bl (nameOk NS l)) H2 := q H2 (e1.trans e2)
      unfold nameOk at z
      rw [hb] at z
      exact z
    · refine s_ret (v := .bl (l.all fun c => decide (c ∈ NS))) (ev_all (p := fun c : Nat => decide (c ∈ NS)) (el_lcS (ev_var rfl) hl (fun _ => rfl) fun c hc H2 e2 => ?_)) fun H2 e2 => ?_
      · exact ev_op (ev_var rfl) (ev_cS (l := NS) rfl) rv_inS
      · have z : Q (.bl (nameOk NS l)) H2 := q H2 (e1.trans e2)
        unfold nameOk at z
        rw [hb] at z
        exact z
def sp_is_path (_ : PySem.W.Frag) : Sp := sp1 (fun l : List Nat => [.str (S l)]) (fun l _ => l.length ≤ 30000) (fun l => .bl (pathOk l))
theorem ok_is_path {f : Addr} {fd : FuncData} (F : Fun K "is_path" "is_path" s_is_path f fd) (T : Tx mg) (G : Gx K mg) (C__is_name : Kn.Cl P w K mg base 1 "_is_name" (sp__is_name K)) : FnOk P w K mg base CX0 2 f fd ["value"] (sp_is_path K) := by
  refine F.ok sc_is_path (fun vs H Q E h => ?_) (fun cdv A outer s H vs Q E hr h => ?_)
  · obtain ⟨l, rfl, _⟩ := h
    rfl
  · obtain ⟨l, rfl, hl, q⟩ := h
    refine ⟨_, (pss_cons (ps_set (i := 1) sc_is_path.nd rfl (Or.inl rfl) (pe_m1 PySem.F.slot_str_split PySem.F.type_str_split Kn.mt_split (pv 0) pe_str))
      (pss_one (ps_ret (pe_and (pe_cmpR op_le (pe_callB Kn.cr_lenSeq (by rfl) T.b_len PySem.boot_len (pa_cons (pv 1) pa_nil)) (C8.pe_gc (by rfl) T.c_MOST_NAMES) (nomark _)) (pe_one (pe_callB (cr_all rfl) (by rfl) T.b_all (by decide +kernel) (pa_cons (pe_lc (own := [("name", 2)]) rfl sc_is_path.nd (pi_list (pv 1)) (blkOk_by (own := [("name", 2)]) (N := N_is_path) (sc := defScope s_is_path) (by decide +kernel)) (fun _ _ _ _ _ => pg_name (i := 2) sc_is_path.nd rfl (Or.inl rfl)) (fun _ _ _ _ _ => pts_nil) (fun _ _ _ _ _ => (Kn.pe_cl C__is_name hr (by decide) (by rfl) (pa_cons (pv 2) pa_nil)))) pa_nil))))))), ?_⟩
    have hc := cut1_len 47 l
    refine q_asgL (el_split (c := 47) (ev_var rfl) (ev_cS rfl) (by decide) (by omega)) fun p H1 np e1 hp => ?_
    refine s_ret (v := .bl (pathOk l)) (ev_andV (a := decide (((cut1 47 l).length : Int) ≤ 4)) (ev_is (ev_op (ev_len (ev_var rfl) (sq_of hp)) ev_c rv_le) (by rw [List.length_map])) fun _ => ev_all (p := nameOk NS) (el_lcM (g := fun p => V.str (S p)) (ev_var rfl) (sq_of hp) (by omega) (fun _ => rfl) fun n hn H2 e2 => ?_)) fun H2 e2 => q H2 (e1.trans e2)
    have := cut1_part hn
    exact ev_c1 (a := n) (by walk_at "ev") fun _ _ => (by omega)
end

section
variable {P : Program} {w : World} {K : PySem.W.Frag} {mg : Str → Option Value} {base : Heap}
theorem ok_InvalidPath___init__ {f : Addr} {fd : FuncData} (F : Fun K "__init__" "InvalidPath.__init__" s_InvalidPath___init__ f fd) (T : Tx mg) (G : Gx K mg)  : FnOk P w K mg base CX0 1 f fd ["self", "path"] (sp_I1 "path" K) := by
  refine F.ok sc_InvalidPath___init__ (fun vs H Q E h => ?_) (fun cdv A outer s H vs Q E hr h => ?_)
  · obtain ⟨a, C, l, rfl, _⟩ := h
    rfl
  · obtain ⟨a, C, l, rfl, hl, ha, oe, nf, q⟩ := h
    refine ⟨_, (pss_cons (ps_expr (Kn.pe_beinit G.b_BuildError (by rfl) G.g_BuildError (pa_cons (pv 0) (pa_cons (pe_joined (.cons pe_str (.cons (pe_fmt (pv 1)) .nil))) pa_nil))))
      (pss_one (ps_ost (pv 0) (pv 1)))), ?_⟩
    exact init1_body (l := l) (ev_js (.cons (ev_cS (l := (Str.ofString "not a path: ").cps.toList) rfl) (.cons (ev_fmtS (ev_var rfl) (by omega)) .nil)) (by show (12 + (l.length + 0)) ≤ 100000; omega)) ha oe nf fun dx H' h1 h2 m => q dx H' h1 h2 m

theorem ok_InvalidContent___init__ {f : Addr} {fd : FuncData} (F : Fun K "__init__" "InvalidContent.__init__" s_InvalidContent___init__ f fd) (T : Tx mg) (G : Gx K mg)  : FnOk P w K mg base CX0 1 f fd ["self", "path"] (sp_I1 "path" K) := by
  refine F.ok sc_InvalidContent___init__ (fun vs H Q E h => ?_) (fun cdv A outer s H vs Q E hr h => ?_)
  · obtain ⟨a, C, l, rfl, _⟩ := h
    rfl
  · obtain ⟨a, C, l, rfl, hl, ha, oe, nf, q⟩ := h
    refine ⟨_, (pss_cons (ps_expr (Kn.pe_beinit G.b_BuildError (by rfl) G.g_BuildError (pa_cons (pv 0) (pa_cons (pe_joined (.cons pe_str (.cons (pe_fmt (pv 1)) .nil))) pa_nil))))
      (pss_one (ps_ost (pv 0) (pv 1)))), ?_⟩
    exact init1_body (l := l) (ev_js (.cons (ev_cS (l := (Str.ofString "not a content, at ").cps.toList) rfl) (.cons (ev_fmtS (ev_var rfl) (by omega)) .nil)) (by show (18 + (l.length + 0)) ≤ 100000; omega)) ha oe nf fun dx H' h1 h2 m => q dx H' h1 h2 m

theorem ok_NoEntry___init__ {f : Addr} {fd : FuncData} (F : Fun K "__init__" "NoEntry.__init__" s_NoEntry___init__ f fd) (T : Tx mg) (G : Gx K mg)  : FnOk P w K mg base CX0 1 f fd ["self", "path"] (sp_I1 "path" K) := by
  refine F.ok sc_NoEntry___init__ (fun vs H Q E h => ?_) (fun cdv A outer s H vs Q E hr h => ?_)
  · obtain ⟨a, C, l, rfl, _⟩ := h
    rfl
  · obtain ⟨a, C, l, rfl, hl, ha, oe, nf, q⟩ := h
    refine ⟨_, (pss_cons (ps_expr (Kn.pe_beinit G.b_BuildError (by rfl) G.g_BuildError (pa_cons (pv 0) (pa_cons (pe_joined (.cons pe_str (.cons (pe_fmt (pv 1)) .nil))) pa_nil))))
      (pss_one (ps_ost (pv 0) (pv 1)))), ?_⟩
    exact init1_body (l := l) (ev_js (.cons (ev_cS (l := (Str.ofString "no entry at ").cps.toList) rfl) (.cons (ev_fmtS (ev_var rfl) (by omega)) .nil)) (by show (12 + (l.length + 0)) ≤ 100000; omega)) ha oe nf fun dx H' h1 h2 m => q dx H' h1 h2 m

theorem ok_TreeFull___init__ {f : Addr} {fd : FuncData} (F : Fun K "__init__" "TreeFull.__init__" s_TreeFull___init__ f fd) (T : Tx mg) (G : Gx K mg)  : FnOk P w K mg base CX0 1 f fd ["self", "path"] (sp_I1 "path" K) := by
  refine F.ok sc_TreeFull___init__ (fun vs H Q E h => ?_) (fun cdv A outer s H vs Q E hr h => ?_)
  · obtain ⟨a, C, l, rfl, _⟩ := h
    rfl
  · obtain ⟨a, C, l, rfl, hl, ha, oe, nf, q⟩ := h
    refine ⟨_, (pss_cons (ps_expr (Kn.pe_beinit G.b_BuildError (by rfl) G.g_BuildError (pa_cons (pv 0) (pa_cons (pe_joined (.cons pe_str (.cons (pe_fmt (pv 1)) .nil))) pa_nil))))
      (pss_one (ps_ost (pv 0) (pv 1)))), ?_⟩
    exact init1_body (l := l) (ev_js (.cons (ev_cS (l := (Str.ofString "no room for a person's entry at ").cps.toList) rfl) (.cons (ev_fmtS (ev_var rfl) (by omega)) .nil)) (by show (32 + (l.length + 0)) ≤ 100000; omega)) ha oe nf fun dx H' h1 h2 m => q dx H' h1 h2 m

end
/-! ### trees -/
def eFile : List Nat := (Str.ofString "file").cps.toList
def eLink : List Nat := (Str.ofString "link").cps.toList
def eNone : List Nat := (Str.ofString "none").cps.toList
def ePerson : List Nat := (Str.ofString "person").cps.toList
theorem file_ne : ¬ eFile = eLink := by decide +kernel
theorem none_ne : ¬ eNone = eLink := by decide +kernel
inductive Ent where
  | file (t b : List Nat) | link (t : List Nat)
def entV : Ent → List V
  | .file t b => [.str (S eFile), .str (S t), .str (S b)]
  | .link t => [.str (S eLink), .str (S t)]
def kindL : Option Ent → List Nat
  | none => eNone
  | some (.file _ _) => eFile
  | some (.link _) => eLink
def isPers : Ent → Bool
  | .link _ => true
  | .file _ b => decide (b = ePerson)
def step (es : List (List Nat × Ent)) (k : List Nat) : Option (List Nat) := match look es k with
  | some (.link t) => some t
  | _ => none
theorem kind_link {es : List (List Nat × Ent)} {k : List Nat} : kindL (look es k) = eLink ↔ ∃ t, look es k = some (.link t) := by
  cases h : look es k with
  | none => exact ⟨fun z => absurd z none_ne, fun ⟨t, z⟩ => nomatch z⟩
  | some e =>
    cases e with
    | file t b => exact ⟨fun z => absurd z file_ne, fun ⟨t, z⟩ => nomatch z⟩
    | link t => exact ⟨fun _ => ⟨t, rfl⟩, fun _ => rfl⟩
/-- the end of the links, one step at a time -/
def endV (g : List Nat → Option (List Nat)) : Nat → List Nat → V
  | 0, _ => .non
  | n + 1, k => match g k with
    | none => .str (S k)
    | some t => endV g n t
theorem endV_congr {g g' : List Nat → Option (List Nat)} (h : ∀ k, g k = g' k) : ∀ n k, endV g n k = endV g' n k
  | 0, _ => rfl
  | n + 1, k => by
    show (match g k with | none => V.str (S k) | some t => endV g n t) = match g' k with | none => V.str (S k) | some t => endV g' n t
    rw [h k]
    cases g' k with
    | none => rfl
    | some t => exact endV_congr h n t
def flds (d : Addr) : List (Str × V) := putF "entries" (.ref d) []
theorem flds_eq (d : Addr) : flds d = [(("entries" : Str), V.ref d)] := rfl
theorem flds_get (d : Addr) : (flds d).lookup ("entries" : Str) = some (.ref d) := by
  unfold flds
  rw [lookup_putF, if_pos rfl]
theorem flds_no (d : Addr) {m : Str} (h : ¬ m = "entries") : (flds d).lookup m = none := by
  unfold flds
  rw [lookup_putF, if_neg h]
  rfl
structure Tc (K : PySem.W.Frag) (C : Addr) : Prop where
  cl : Cls K C
  na : NoAttr K C "entries"
def EntAt (H : Hp) (e : Ent) (v : V) : Prop := ∃ q, v = .ref q ∧ H q = some (.tup (entV e))
structure Tr (C : Addr) (H : Hp) (p d : Addr) (es : List (List Nat × Ent)) : Prop where
  ob : ∃ dx, H p = some (.ins C dx (flds d))
  dc : ∃ kvs, H d = some (.dK kvs) ∧ Lies (EntAt H) es kvs
theorem Tr.mono {C : Addr} {H H1 : Hp} {p d : Addr} {es : List (List Nat × Ent)} (T : Tr C H p d es) (e : Ex H H1) : Tr C H1 p d es := by
  obtain ⟨⟨dx, h1⟩, kvs, h2, h3⟩ := T
  exact ⟨⟨dx, e _ _ h1⟩, kvs, e _ _ h2, h3.mono fun a v ⟨q, z1, z2⟩ => ⟨q, z1, e _ _ z2⟩⟩
theorem Tr.put {C : Addr} {H : Hp} {p d r : Addr} {es : List (List Nat × Ent)} {kvs : List (Key × V)} {k : List Nat} {e : Ent} (T : Tr C H p d es) (hd : H d = some (.dK kvs)) (hr : H r = some (.tup (entV e))) :
    Tr C (upd H d (.dK (putK kvs (Sum.inr (S k)) (.ref r)))) p d (put es k e) := by
  obtain ⟨⟨dx, h1⟩, kvs', h2, h3⟩ := T
  cases Option.some.inj (hd.symm.trans h2)
  have nd : ∀ q w, H q = some (.tup w) → q ≠ d := fun q w h => ne_of h hd (by intro z; cases z)
  refine ⟨⟨dx, ?_⟩, _, upd_same, (h3.mono fun a v ⟨q, z1, z2⟩ => ⟨q, z1, ?_⟩).put ⟨r, rfl, ?_⟩⟩
  · rw [upd_ne (ne_of h1 hd (by intro z; cases z))]
    exact h1
  · rw [upd_ne (nd _ _ hr)]
    exact hr
  · rw [upd_ne (nd _ _ z2)]
    exact z2
/-- how many entries of persons there are -/
def persons (es : List (List Nat × Ent)) : Nat := ((List.range es.length).filter fun i => (es[i]?.map fun x => isPers x.2).getD false).length
def hasRoom (es : List (List Nat × Ent)) (k : List Nat) : Bool := (look es k).isSome && ((look es k).map isPers).getD false || decide ((persons es : Int) < 60)
theorem persons_le (es : List (List Nat × Ent)) : persons es ≤ es.length := by
  unfold persons
  have h := List.length_filter_le (fun i => (es[i]?.map fun x => isPers x.2).getD false) (List.range es.length)
  rw [List.length_range] at h
  exact h
theorem room_of {es : List (List Nat × Ent)} (h : es.length < 60) (k : List Nat) : hasRoom es k = true := by
  have := persons_le es
  unfold hasRoom
  rw [decide_eq_true (show (persons es : Int) < 60 by omega), Bool.or_true]
section
variable {P : Program} {w : World} {K : PySem.W.Frag} {mg : Str → Option Value} {base : Heap}
def sp_Tree___init__ (C : Addr) (_ : PySem.W.Frag) : Sp := fun vs H Q _ => ∃ (p dx : Addr), vs = [.ref p] ∧ H p = some (.ins C dx []) ∧ ∀ (d : Addr) (H' : Hp), H d = none → Tr C H' p d [] → (∀ b o, H b = some o → b ≠ p → H' b = some o) → Q .non H'
theorem ok_Tree___init__ {f C : Addr} {fd : FuncData} (F : Fun K "__init__" "Tree.__init__" s_Tree___init__ f fd) (T : Tx mg) (G : Gx K mg) (TC : Tc K C)  : FnOk P w K mg base CX0 1 f fd ["self"] (sp_Tree___init__ C K) := by
  refine F.ok sc_Tree___init__ (fun vs H Q E h => ?_) (fun cdv A outer s H vs Q E hr h => ?_)
  · obtain ⟨p, dx, rfl, _⟩ := h
    rfl
  · obtain ⟨p, dx, rfl, hp, k⟩ := h
    refine ⟨_, (pss_one (ps_fld (pv 0) pe_dnewK rfl)), ?_⟩
    intro d hd
    have npd : p ≠ d := ne_of_none hp hd
    refine ⟨_, rfl, p, C, dx, [], rfl, (by rw [upd_ne npd]; exact hp), TC.cl, TC.na, (by show 0 < 1000; decide), ?_⟩
    refine k d _ hd ⟨⟨dx, upd_same⟩, [], by rw [upd_ne npd.symm, upd_same], .nil⟩ fun b o e hb => ?_
    rw [upd_ne hb, upd_ne (ne_of_none e hd)]
    exact e
def sp__is_persons (K : PySem.W.Frag) : Sp := sp2 (fun (q : Addr) (_ : Ent) => [.ref q]) (fun q e H => SqT K H q (entV e)) (fun _ e => .bl (isPers e))
theorem ok__is_persons {f : Addr} {fd : FuncData} (F : Fun K "_is_persons" "_is_persons" s__is_persons f fd) (T : Tx mg) (G : Gx K mg)  : FnOk P w K mg base CX0 1 f fd ["entry"] (sp__is_persons K) := by
  refine F.ok sc__is_persons (fun vs H Q E h => ?_) (fun cdv A outer s H vs Q E hr h => ?_)
  · obtain ⟨a, e, rfl, _⟩ := h
    rfl
  · obtain ⟨a, e, rfl, hS, q⟩ := h
    refine ⟨_, (pss_one (ps_ret (pe_or (pe_cmpR op_eq (pe_ix ix_tup (pv 0) pe_int (fun _ _ => rfl)) pe_str (nomark _)) (pe_one (pe_cmpR op_eq (pe_ix ix_tup (pv 0) pe_int (fun _ _ => rfl)) pe_str (nomark _)))))), ?_⟩
    cases e with
    | file t b =>
      refine s_ret (v := .bl (decide (b = ePerson))) (ev_is (ev_orV (a := false) (b := decide (b = ePerson)) (ev_is (ev_op (ev_op (ev_var rfl) ev_c (rv_ix0 (i := 0) (v := .str (S eFile)) hS rfl)) (ev_cS (l := eLink) rfl) rv_eqS) (by rw [decide_eq_false file_ne])) fun _ => ev_op (ev_op (ev_var rfl) ev_c (rv_ix0 (i := 2) (v := .str (S b)) hS rfl)) (ev_cS (l := ePerson) rfl) rv_eqS) (by rw [Bool.false_or])) q
    | link t =>
      refine s_ret (v := .bl true) (ev_is (ev_orV (a := true) (b := true) (ev_is (ev_op (ev_op (ev_var rfl) ev_c (rv_ix0 (i := 0) (v := .str (S eLink)) hS rfl)) (ev_cS (l := eLink) rfl) rv_eqS) (by rw [decide_eq_true rfl])) fun z => nomatch z) rfl) q
def sp_Tree_kind (C : Addr) (_ : PySem.W.Frag) : Sp := fun vs H Q _ => ∃ (p d : Addr) (es : List (List Nat × Ent)) (k : List Nat), vs = [.ref p, .str (S k)] ∧ Tr C H p d es ∧ Rt H (.str (S (kindL (look es k)))) Q
theorem ok_Tree_kind {f C : Addr} {fd : FuncData} (F : Fun K "kind" "Tree.kind" s_Tree_kind f fd) (T : Tx mg) (G : Gx K mg) (TC : Tc K C)  : FnOk P w K mg base CX0 1 f fd ["self", "path"] (sp_Tree_kind C K) := by
  refine F.ok sc_Tree_kind (fun vs H Q E h => ?_) (fun cdv A outer s H vs Q E hr h => ?_)
  · obtain ⟨p, d, es, k, rfl, _⟩ := h
    rfl
  · obtain ⟨p, d, es, k, rfl, ⟨⟨dx, hp⟩, kvs, hd, hL⟩, q⟩ := h
    refine ⟨_, (pss_cons (ps_set (i := 2) sc_Tree_kind.nd rfl (Or.inl rfl) (pe_dget1 (hu_of hr) (pe_fld (pv 0) rfl) (pv 1) ⟨rfl, rfl, rfl, rfl⟩))
      (pss_one (ps_ret (pe_ifExp (pt_cmpR op_isN1 (pv 2) pe_non (nomark _)) pe_str (pe_ix ix_tup (pv 2) pe_int (fun _ _ => rfl)))))), ?_⟩
    refine q_asg (ev_dget1 (k := k) (ev_fld (ev_var rfl) hp TC.cl TC.na (flds_get d)) (ev_var rfl) hd) fun H1 e1 => ?_
    rcases hL.look k with ⟨h1, h2⟩ | ⟨e, v, h1, h2, r, rfl, hr2⟩
    · rw [h2]
      rw [h1] at q
      refine s_ret (v := .str (S eNone)) (ev_if (et_isN (ev_var rfl)) (fun _ => ev_cS rfl) fun z => ?_) fun H2 e2 => q H2 (e1.trans e2)
      exact absurd z (by decide)
    · rw [h2]
      rw [h1] at q
      refine s_ret (v := .str (S (kindL (some e)))) (ev_if (et_isN (ev_var rfl)) (fun z => ?_) fun _ => ?_) fun H2 e2 => q H2 (e1.trans e2)
      · exact absurd z (by simp)
      · refine ev_op (ev_var rfl) ev_c (rv_ix0 (i := 0) (st_of (e1 _ _ hr2)) ?_)
        cases e <;> rfl
theorem kind_sp {C p d : Addr} {H : Hp} {es : List (List Nat × Ent)} {k : List Nat} (T : Tr C H p d es) : SpV (sp_Tree_kind C K) [.ref p, .str (S k)] H (.str (S (kindL (look es k)))) := fun H1 e Q q E => ⟨p, d, es, k, rfl, T.mono e, fun H2 e2 => q H2 e2⟩
def sp_Tree__has_room (C : Addr) (_ : PySem.W.Frag) : Sp := fun vs H Q _ => ∃ (p d : Addr) (es : List (List Nat × Ent)) (k : List Nat), vs = [.ref p, .str (S k)] ∧ Tr C H p d es ∧ es.length ≤ 30000 ∧ Rt H (.bl (hasRoom es k)) Q
theorem ok_Tree__has_room {f C : Addr} {fd : FuncData} (F : Fun K "_has_room" "Tree._has_room" s_Tree__has_room f fd) (T : Tx mg) (G : Gx K mg) (TC : Tc K C) (C__is_persons : Kn.Cl P w K mg base 1 "_is_persons" (sp__is_persons K)) : FnOk P w K mg base CX0 2 f fd ["self", "path"] (sp_Tree__has_room C K) := by
  refine F.ok sc_Tree__has_room (fun vs H Q E h => ?_) (fun cdv A outer s H vs Q E hr h => ?_)
  · obtain ⟨p, d, es, k, rfl, _⟩ := h
    rfl
  · obtain ⟨p, d, es, k, rfl, TR, hlen, q⟩ := h
    refine ⟨_, (pss_cons (ps_if (PW.pt (pw_and (pt_cmp (pc_din (hu_of hr) (pv 1) (pe_fld (pv 0) rfl))) (pw_and1 (pt_val (Kn.pe_cl C__is_persons hr (by decide) (by rfl) (pa_cons (pe_dget (hu_of hr) (pe_fld (pv 0) rfl) (pv 1) (fun _ _ => rfl)) pa_nil)))))) (pss_one (ps_ret pe_bl)) pss_nil)
      (pss_cons (ps_lock (ps_setLc (i := 2) (own := [("entry", 3)]) rfl sc_Tree__has_room.nd rfl rfl (sw_true rfl rfl rfl (by decide +kernel)) (pi_values (pe_fld (pv 0) rfl)) (blkOk_by (own := [("entry", 3)]) (N := N_Tree__has_room) (sc := defScope s_Tree__has_room) (by decide +kernel)) (fun _ _ _ _ _ => pg_name (i := 3) sc_Tree__has_room.nd rfl (Or.inl rfl)) (fun _ _ _ _ _ => (pts_one (pt_val (Kn.pe_cl C__is_persons hr (by decide) (by rfl) (pa_cons (pv 3) pa_nil))))) (fun _ _ _ _ _ => (pv 3))))
      (pss_one (ps_ret (pe_cmpR op_lt (pe_callB Kn.cr_lenSeq (by rfl) T.b_len PySem.boot_len (pa_cons (pv 2) pa_nil)) (C8.pe_gc (by rfl) T.c_MOST_PERSONS_ENTRIES) (nomark _)))))), ?_⟩
    obtain ⟨⟨dx, hp⟩, kvs, hd, hL⟩ := id TR
    have hkl := hL.len
    have fe : Ev (tFld K (tVar 0) "entries") [some (.ref p), some (.str (S k)), none, none] H (.ref d) := ev_fld (ev_var rfl) hp TC.cl TC.na (flds_get d)
    refine q_when (b := (look es k).isSome && ((look es k).map isPers).getD false) (et_and (a := (look es k).isSome) (et_is (et_din (k := k) (ev_var rfl) fe hd) ?_) fun hs => et_B ?_) (fun hb H1 e1 => ?_) (fun hb H1 e1 => ?_)
    · rcases hL.look k with ⟨h1, h2⟩ | ⟨e, v, h1, h2, _⟩
      · rw [h1, h2]
        rfl
      · rw [h1, h2]
        rfl
    · rcases hL.look k with ⟨h1, h2⟩ | ⟨e, v, h1, h2, r, rfl, hr2⟩
      · rw [h1] at hs
        cases hs
      · rw [h1]
        exact ev_c2 (a := r) (b := e) (ea_cons (ev_dget fe (ev_var rfl) hd h2) ea_nil) fun H2 e2 => st_of (e2 _ _ hr2)
    · refine s_ret ev_c fun H2 e2 => ?_
      have z := q H2 (e1.trans e2)
      unfold hasRoom at z
      rw [hb] at z
      exact z
    · replace q : ∀ H2, Ex H1 H2 → Q (.bl (decide ((persons es : Int) < 60))) H2 := fun H2 e => by
        have z := q H2 (e1.trans e)
        unfold hasRoom at z
        rw [hb, Bool.false_or] at z
        exact z
      have hd1 := e1 _ _ hd
      show tLock _ _ _ _
      refine s_lcVals (D := { nx := _, rt := Q }) (fun i => (es[i]?.map fun x => isPers x.2).getD false) (fun H2 hn => ?_) hd1 (by omega) (fun _ => rfl) (fun i kv H2 hk hi => ?_) (fun x H2 => ev_var rfl) fun r H2 nr e2 hr2 => ?_
      · exact ev_fld (ev_var rfl) (hn _ _ (ne_of hp hd (by intro z; cases z)) (e1 _ _ hp)) TC.cl TC.na (flds_get d)
      · obtain ⟨x, hx, _, q2, hq2, hq3⟩ := hL.get i kv hi
        rw [hx]
        refine et_B (ev_c2 (a := q2) (b := x.2) (ea_cons (ev_var (by rw [hq2]; rfl)) ea_nil) fun H3 e3 => st_of (e3 _ _ (hk _ _ (ne_of hq3 hd (by intro z; cases z)) (e1 _ _ hq3))))
      · refine s_ret (v := .bl (decide ((persons es : Int) < 60))) (ev_is (ev_op (ev_len (ev_var rfl) (sq_of hr2)) ev_c rv_lt) ?_) fun H3 e3 => q H3 (e2.trans e3)
        have e : (given kvs.length (fun i => (es[i]?.map fun x => isPers x.2).getD false) fun i => (kvs[i]?.map (·.2)).getD .non).length = persons es := by
          unfold given persons
          rw [List.length_map, hkl]
        rw [e]
theorem room_sp {C p d : Addr} {H : Hp} {es : List (List Nat × Ent)} {k : List Nat} (T : Tr C H p d es) (hl : es.length ≤ 30000) : SpV (sp_Tree__has_room C K) [.ref p, .str (S k)] H (.bl (hasRoom es k)) := fun H1 e Q q E => ⟨p, d, es, k, rfl, T.mono e, hl, fun H2 e2 => q H2 e2⟩
/-- behind a change of the tree's entries -/
def Keeps (H H' : Hp) (d : Addr) : Prop := ∀ b o, H b = some o → b ≠ d → H' b = some o
def Rz (H : Hp) (E : XK) (C : Addr) (f : Str) (l : List Nat) : Prop := ∀ d H', Ex H H' → H' d = some (.xd [(f, .str (S l))]) → E (.ref C) (some d) H'
def contOk (t : List Nat) : Bool := decide ((t.length : Int) ≤ 400) && okText t
theorem nb {b : Bool} (h : (!b) = true) : b = false := by cases b <;> simp_all
theorem nf {b : Bool} (h : (!b) = false) : b = true := by cases b <;> simp_all
def sp_Tree_link (C : Addr) (G : Gx K mg) : Sp := fun vs H Q E => ∃ (p d : Addr) (es : List (List Nat × Ent)) (k t : List Nat), vs = [.ref p, .str (S k), .str (S t)] ∧ Tr C H p d es ∧ es.length ≤ 30000 ∧ (k.length ≤ 30000 ∧ t.length ≤ 30000) ∧
  (pathOk k = false → Rz H E G.c_InvalidPath "path" k) ∧ (pathOk k = true → pathOk t = false → Rz H E G.c_InvalidPath "path" t) ∧ (pathOk k = true → pathOk t = true → hasRoom es k = false → Rz H E G.c_TreeFull "path" k) ∧
  (pathOk k = true → pathOk t = true → hasRoom es k = true → ∀ H', Tr C H' p d (put es k (.link t)) → Keeps H H' d → Q .non H')
theorem ok_Tree_link {f C : Addr} {fd : FuncData} (F : Fun K "link" "Tree.link" s_Tree_link f fd) (T : Tx mg) (G : Gx K mg) (TC : Tc K C) (C_is_path : Kn.Cl P w K mg base 2 "is_path" (sp_is_path K)) (M_Tree__has_room : Kn.Mt P w K mg base 2 C "_has_room" (sp_Tree__has_room C K)) (Z_InvalidPath : Kn.Xk P w K mg base 1 "InvalidPath" G.c_InvalidPath (sp_I1 "path" K)) (Z_TreeFull : Kn.Xk P w K mg base 1 "TreeFull" G.c_TreeFull (sp_I1 "path" K)) : FnOk P w K mg base (L2.CX P w) 3 f fd ["self", "path", "target"] (sp_Tree_link C G) := by
  refine F.okX sc_Tree_link (fun vs H Q E h => ?_) (fun cdv A outer s H vs Q E hr h => ?_)
  · obtain ⟨p, d, es, k, t, rfl, _⟩ := h
    rfl
  · obtain ⟨p, d, es, k, t, rfl, TR, hlen, ⟨hk, ht⟩, z1, z2, z3, q⟩ := h
    refine ⟨_, (pss_cons (ps_if (pt_not (pt_val (Kn.pe_cl C_is_path hr (by decide) (by rfl) (pa_cons (pv 1) pa_nil)))) (pss_one (Kn.ps_xk Z_InvalidPath hr (by decide) rfl (takes_of rfl rfl rfl rfl) (by rfl) (pa_cons (pv 1) pa_nil))) pss_nil)
      (pss_cons (ps_if (pt_not (pt_val (Kn.pe_cl C_is_path hr (by decide) (by rfl) (pa_cons (pv 2) pa_nil)))) (pss_one (Kn.ps_xk Z_InvalidPath hr (by decide) rfl (takes_of rfl rfl rfl rfl) (by rfl) (pa_cons (pv 2) pa_nil))) pss_nil)
      (pss_cons (ps_if (pt_not (pt_val (Kn.pe_mt M_Tree__has_room hr (by decide) (pv 0) (pa_cons (pv 1) pa_nil)))) (pss_one (Kn.ps_xk Z_TreeFull hr (by decide) rfl (takes_of rfl rfl rfl rfl) (by rfl) (pa_cons (pv 1) pa_nil))) pss_nil)
      (pss_one (ps_dput (hu_of hr) (pe_fld (pv 0) rfl) (pv 1) (pe_tup (pa_cons pe_str (pa_cons (pv 2) pa_nil))) rfl))))), ?_⟩
    refine q_when (b := !pathOk k) (et_not (et_B (ev_c1 (a := k) (by walk_at "ev") fun _ _ => hk))) (fun hb H1 e1 => ?_) fun hb H1 e1 => ?_
    · exact raise1 (W := fun cls d _ H => E cls d H) G.x_InvalidPath.oe G.n_InvalidPath_path (by omega) (ev_var rfl) fun d H' e hd => z1 (nb hb) d H' (e1.trans e) hd
    have pk := nf hb
    refine q_when (b := !pathOk t) (et_not (et_B (ev_c1 (a := t) (by walk_at "ev") fun _ _ => ht))) (fun hb H2 e2 => ?_) fun hb H2 e2 => ?_
    · exact raise1 (W := fun cls d _ H => E cls d H) G.x_InvalidPath.oe G.n_InvalidPath_path (by omega) (ev_var rfl) fun d H' e hd => z2 pk (nb hb) d H' ((e1.trans e2).trans e) hd
    have pt := nf hb
    have T2 := TR.mono (e1.trans e2)
    obtain ⟨⟨dx, hp⟩, kvs, hd, hL⟩ := id T2
    refine q_when (b := !hasRoom es k) (et_not (et_B (ev_meth (ev_var rfl) hp (flds_no d (by decide +kernel)) (ea_cons (ev_var rfl) ea_nil) (room_sp T2 hlen)))) (fun hb H3 e3 => ?_) fun hb H3 e3 => ?_
    · exact raise1 (W := fun cls d _ H => E cls d H) G.x_TreeFull.oe G.n_TreeFull_path (by omega) (ev_var rfl) fun d H' e hd => z3 pk pt (nb hb) d H' (((e1.trans e2).trans e3).trans e) hd
    have T3 := T2.mono e3
    refine s_dputU (xs := entV (.link t)) (k := k) (eu_tup (ea_cons (ev_cS (l := eLink) rfl) (ea_cons (ev_var rfl) ea_nil)) (by show 2 ≤ 100000; decide)) (fun H4 e4 => ev_fld (ev_var rfl) (e4 _ _ (e3 _ _ hp)) TC.cl TC.na (flds_get d)) (fun H4 e4 => ev_var rfl) (e3 _ _ hd) (by have := hL.len; omega) fun r H4 nr e4 hr4 => ?_
    refine q pk pt (nf hb) _ ((T3.mono e4).put (e4 _ _ (e3 _ _ hd)) hr4) fun b o hb hne => ?_
    rw [upd_ne hne]
    exact e4 _ _ (e3 _ _ (e2 _ _ (e1 _ _ hb)))
def sp_Tree_write (C : Addr) (G : Gx K mg) : Sp := fun vs H Q E => ∃ (p d : Addr) (es : List (List Nat × Ent)) (k t b : List Nat), vs = [.ref p, .str (S k), .str (S t), .str (S b)] ∧ Tr C H p d es ∧ es.length ≤ 30000 ∧ (k.length ≤ 30000 ∧ t.length ≤ 30000) ∧
  (pathOk k = false → Rz H E G.c_InvalidPath "path" k) ∧ (pathOk k = true → contOk t = false → Rz H E G.c_InvalidContent "path" k) ∧ (pathOk k = true → contOk t = true → (decide (b = ePerson) && !hasRoom es k) = true → Rz H E G.c_TreeFull "path" k) ∧
  (pathOk k = true → contOk t = true → (decide (b = ePerson) && !hasRoom es k) = false → ∀ H', Tr C H' p d (put es k (.file t b)) → Keeps H H' d → Q .non H')
theorem ok_Tree_write {f C : Addr} {fd : FuncData} (F : Fun K "write" "Tree.write" s_Tree_write f fd) (T : Tx mg) (G : Gx K mg) (TC : Tc K C) (C_is_path : Kn.Cl P w K mg base 2 "is_path" (sp_is_path K)) (C_is_content : Kn.Cl P w K mg base 3 "is_content" (sp_is_content K)) (M_Tree__has_room : Kn.Mt P w K mg base 2 C "_has_room" (sp_Tree__has_room C K)) (Z_InvalidPath : Kn.Xk P w K mg base 1 "InvalidPath" G.c_InvalidPath (sp_I1 "path" K)) (Z_InvalidContent : Kn.Xk P w K mg base 1 "InvalidContent" G.c_InvalidContent (sp_I1 "path" K)) (Z_TreeFull : Kn.Xk P w K mg base 1 "TreeFull" G.c_TreeFull (sp_I1 "path" K)) : FnOk P w K mg base (L2.CX P w) 4 f fd ["self", "path", "text", "by"] (sp_Tree_write C G) := by
  refine F.okX sc_Tree_write (fun vs H Q E h => ?_) (fun cdv A outer s H vs Q E hr h => ?_)
  · obtain ⟨p, d, es, k, t, b, rfl, _⟩ := h
    rfl
  · obtain ⟨p, d, es, k, t, b, rfl, TR, hlen, ⟨hk, ht⟩, z1, z2, z3, q⟩ := h
    refine ⟨_, (pss_cons (ps_if (pt_not (pt_val (Kn.pe_cl C_is_path hr (by decide) (by rfl) (pa_cons (pv 1) pa_nil)))) (pss_one (Kn.ps_xk Z_InvalidPath hr (by decide) rfl (takes_of rfl rfl rfl rfl) (by rfl) (pa_cons (pv 1) pa_nil))) pss_nil)
      (pss_cons (ps_if (pt_not (pt_val (Kn.pe_cl C_is_content hr (by decide) (by rfl) (pa_cons (pv 2) pa_nil)))) (pss_one (Kn.ps_xk Z_InvalidContent hr (by decide) rfl (takes_of rfl rfl rfl rfl) (by rfl) (pa_cons (pv 1) pa_nil))) pss_nil)
      (pss_cons (ps_if (PW.pt (pw_and (pt_cmpR op_eq (pv 3) pe_str (nomark _)) (pw_and1 (pt_not (pt_val (Kn.pe_mt M_Tree__has_room hr (by decide) (pv 0) (pa_cons (pv 1) pa_nil))))))) (pss_one (Kn.ps_xk Z_TreeFull hr (by decide) rfl (takes_of rfl rfl rfl rfl) (by rfl) (pa_cons (pv 1) pa_nil))) pss_nil)
      (pss_one (ps_dput (hu_of hr) (pe_fld (pv 0) rfl) (pv 1) (pe_tup (pa_cons pe_str (pa_cons (pv 2) (pa_cons (pv 3) pa_nil)))) rfl))))), ?_⟩
    refine q_when (b := !pathOk k) (et_not (et_B (ev_c1 (a := k) (by walk_at "ev") fun _ _ => hk))) (fun hb H1 e1 => ?_) fun hb H1 e1 => ?_
    · exact raise1 (W := fun cls d _ H => E cls d H) G.x_InvalidPath.oe G.n_InvalidPath_path (by omega) (ev_var rfl) fun d H' e hd => z1 (nb hb) d H' (e1.trans e) hd
    have pk := nf hb
    refine q_when (b := !contOk t) (et_not (et_B (ev_c1 (a := t) (by walk_at "ev") fun _ _ => (by omega)))) (fun hb H2 e2 => ?_) fun hb H2 e2 => ?_
    · exact raise1 (W := fun cls d _ H => E cls d H) G.x_InvalidContent.oe G.n_InvalidContent_path (by omega) (ev_var rfl) fun d H' e hd => z2 pk (nb hb) d H' ((e1.trans e2).trans e) hd
    have pt := nf hb
    have T2 := TR.mono (e1.trans e2)
    obtain ⟨⟨dx, hp⟩, kvs, hd, hL⟩ := id T2
    refine q_when (b := decide (b = ePerson) && !hasRoom es k) (et_and (a := decide (b = ePerson)) (b := !hasRoom es k) (et_test (ev_op (ev_var rfl) (ev_cS (l := ePerson) rfl) rv_eqS)) fun _ => et_not (et_B (ev_meth (ev_var rfl) hp (flds_no d (by decide +kernel)) (ea_cons (ev_var rfl) ea_nil) (room_sp T2 hlen)))) (fun hb H3 e3 => ?_) fun hb H3 e3 => ?_
    · exact raise1 (W := fun cls d _ H => E cls d H) G.x_TreeFull.oe G.n_TreeFull_path (by omega) (ev_var rfl) fun d H' e hd => z3 pk pt hb d H' (((e1.trans e2).trans e3).trans e) hd
    have T3 := T2.mono e3
    refine s_dputU (xs := entV (.file t b)) (k := k) (eu_tup (ea_cons (ev_cS (l := eFile) rfl) (ea_cons (ev_var rfl) (ea_cons (ev_var rfl) ea_nil))) (by show 3 ≤ 100000; decide)) (fun H4 e4 => ev_fld (ev_var rfl) (e4 _ _ (e3 _ _ hp)) TC.cl TC.na (flds_get d)) (fun H4 e4 => ev_var rfl) (e3 _ _ hd) (by have := hL.len; omega) fun r H4 nr e4 hr4 => ?_
    refine q pk pt hb _ ((T3.mono e4).put (e4 _ _ (e3 _ _ hd)) hr4) fun b o hb hne => ?_
    rw [upd_ne hne]
    exact e4 _ _ (e3 _ _ (e2 _ _ (e1 _ _ hb)))
/-- without the entry at a key -/
def dropE (es : List (List Nat × Ent)) (k : List Nat) : List (List Nat × Ent) := es.filter fun x => !decide (x.1 = k)
theorem Lies.drop {R : Ent → V → Prop} {k : List Nat} : ∀ {es : List (List Nat × Ent)} {kvs : List (Key × V)}, Kn.Lies R es kvs → Kn.Lies R (dropE es k) (dropK kvs (Sum.inr (S k)))
  | [], _, .nil => .nil
  | x :: r, kv :: kvs, .cons h t => by
    unfold dropE dropK
    rw [List.filter_cons, List.filter_cons]
    by_cases hk : x.1 = k
    · rw [if_neg (by rw [decide_eq_true hk]; decide), if_neg (by simp [h.1, hk])]
      exact Lies.drop t
    · have hne : ¬ kv.1 = (Sum.inr (S k) : Key) := fun z => hk (key_eq.mp (h.1.symm.trans z))
      rw [if_pos (by rw [decide_eq_false hk]; rfl), if_pos (by simp [hne])]
      exact .cons h (Lies.drop t)
theorem Tr.upd {C : Addr} {H : Hp} {p d : Addr} {es es' : List (List Nat × Ent)} {kvs kvs' : List (Key × V)} (T : Tr C H p d es) (hd : H d = some (.dK kvs)) (hL : Kn.Lies (EntAt H) es' kvs') : Tr C (L2.upd H d (.dK kvs')) p d es' := by
  obtain ⟨⟨dx, h1⟩, kvs0, h2, h3⟩ := T
  refine ⟨⟨dx, ?_⟩, _, upd_same, hL.mono fun a v ⟨q, z1, z2⟩ => ⟨q, z1, ?_⟩⟩
  · rw [upd_ne (ne_of h1 hd (by intro z; cases z))]
    exact h1
  · rw [upd_ne (ne_of z2 hd (by intro z; cases z))]
    exact z2
def sp_Tree_erase (C : Addr) (G : Gx K mg) : Sp := fun vs H Q E => ∃ (p d : Addr) (es : List (List Nat × Ent)) (k : List Nat), vs = [.ref p, .str (S k)] ∧ Tr C H p d es ∧ k.length ≤ 30000 ∧
  (look es k = none → Rz H E G.c_NoEntry "path" k) ∧ (look es k ≠ none → ∀ H', Tr C H' p d (dropE es k) → Keeps H H' d → Q .non H')
theorem ok_Tree_erase {f C : Addr} {fd : FuncData} (F : Fun K "erase" "Tree.erase" s_Tree_erase f fd) (T : Tx mg) (G : Gx K mg) (TC : Tc K C) (Z_NoEntry : Kn.Xk P w K mg base 1 "NoEntry" G.c_NoEntry (sp_I1 "path" K)) : FnOk P w K mg base (L2.CX P w) 3 f fd ["self", "path"] (sp_Tree_erase C G) := by
  refine F.okX sc_Tree_erase (fun vs H Q E h => ?_) (fun cdv A outer s H vs Q E hr h => ?_)
  · obtain ⟨p, d, es, k, rfl, _⟩ := h
    rfl
  · obtain ⟨p, d, es, k, rfl, TR, hk, z1, q⟩ := h
    refine ⟨_, (pss_cons (ps_if (pt_cmp (pc_dnotin (hu_of hr) (pv 1) (pe_fld (pv 0) rfl))) (pss_one (Kn.ps_xk Z_NoEntry hr (by decide) rfl (takes_of rfl rfl rfl rfl) (by rfl) (pa_cons (pv 1) pa_nil))) pss_nil)
      (pss_one (ps_ddel (pe_fld (pv 0) rfl) (pv 1)))), ?_⟩
    obtain ⟨⟨dx, hp⟩, kvs, hd, hL⟩ := id TR
    have fe : ∀ H1, Ex H H1 → Ev (tFld K (tVar 0) "entries") [some (.ref p), some (.str (S k))] H1 (.ref d) := fun H1 e1 => ev_fld (ev_var rfl) (e1 _ _ hp) TC.cl TC.na (flds_get d)
    refine q_when (b := !(valV kvs (Sum.inr (S k))).isSome) (et_dnotin (ev_var rfl) (fe H (Ex.refl H)) hd) (fun hb H1 e1 => ?_) fun hb H1 e1 => ?_
    · refine raise1 (W := fun cls d _ H => E cls d H) G.x_NoEntry.oe G.n_NoEntry_path (by omega) (ev_var rfl) fun d H' e hd => z1 ?_ d H' (e1.trans e) hd
      rcases hL.look k with ⟨h1, h2⟩ | ⟨e, v, h1, h2, _⟩
      · exact h1
      · rw [h2] at hb
        cases hb
    · have T1 := TR.mono e1
      have hs : (valV kvs (Sum.inr (S k))).isSome = true := nf hb
      refine fe H1 e1 H1 (Ex.refl _) _ fun H2 e2 => ev_var rfl H2 e2 _ fun H3 e3 => ⟨d, kvs, Sum.inr (S k), rfl, e3 _ _ (e2 _ _ (e1 _ _ hd)), rfl, hs, ?_⟩
      have e13 := (e1.trans e2).trans e3
      refine q (fun z => ?_) _ ((TR.mono e13).upd (e13 _ _ hd) (Lies.drop (hL.mono fun a v ⟨q, z1, z2⟩ => ⟨q, z1, e13 _ _ z2⟩))) fun b o hb hne => ?_
      · rcases hL.look k with ⟨h1, h2⟩ | ⟨e, v, h1, h2, _⟩
        · rw [h2] at hs
          cases hs
        · rw [z] at h1
          cases h1
      · rw [upd_ne hne]
        exact e13 _ _ hb
def readV : Option Ent → V
  | some (.file t _) => .str (S t)
  | _ => .non
def writerV : Option Ent → V
  | some (.file _ b) => .str (S b)
  | _ => .non
theorem kind_file {es : List (List Nat × Ent)} {k : List Nat} : kindL (look es k) = eFile ↔ ∃ t b, look es k = some (.file t b) := by
  cases h : look es k with
  | none => exact ⟨fun z => absurd z (by decide +kernel), fun ⟨t, b, z⟩ => nomatch z⟩
  | some e =>
    cases e with
    | file t b => exact ⟨fun _ => ⟨t, b, rfl⟩, fun _ => rfl⟩
    | link t => exact ⟨fun z => absurd z.symm file_ne, fun ⟨t, b, z⟩ => nomatch z⟩
def sp_Tree_read (C : Addr) (_ : PySem.W.Frag) : Sp := fun vs H Q _ => ∃ (p d : Addr) (es : List (List Nat × Ent)) (k : List Nat), vs = [.ref p, .str (S k)] ∧ Tr C H p d es ∧ Rt H (readV (look es k)) Q
theorem ok_Tree_read {f C : Addr} {fd : FuncData} (F : Fun K "read" "Tree.read" s_Tree_read f fd) (T : Tx mg) (G : Gx K mg) (TC : Tc K C) (M_Tree_kind : Kn.Mt P w K mg base 1 C "kind" (sp_Tree_kind C K)) : FnOk P w K mg base CX0 2 f fd ["self", "path"] (sp_Tree_read C K) := by
  refine F.ok sc_Tree_read (fun vs H Q E h => ?_) (fun cdv A outer s H vs Q E hr h => ?_)
  · obtain ⟨p, d, es, k, rfl, _⟩ := h
    rfl
  · obtain ⟨p, d, es, k, rfl, TR, q⟩ := h
    refine ⟨_, (pss_one (ps_ret (pe_ifExp (pt_cmpR op_eq (Kn.pe_mt M_Tree_kind hr (by decide) (pv 0) (pa_cons (pv 1) pa_nil)) pe_str (nomark _)) (pe_ix ix_tup (pe_dget (hu_of hr) (pe_fld (pv 0) rfl) (pv 1) (fun _ _ => rfl)) pe_int (fun _ _ => rfl)) pe_non))), ?_⟩
    obtain ⟨⟨dx, hp⟩, kvs, hd, hL⟩ := id TR
    refine s_ret (v := readV (look es k)) (ev_if (b := decide (kindL (look es k) = eFile)) (et_test (ev_op (ev_meth (ev_var rfl) hp (flds_no d (by decide +kernel)) (ea_cons (ev_var rfl) ea_nil) (kind_sp TR)) (ev_cS (l := eFile) rfl) rv_eqS)) (fun hb => ?_) (fun hb => ?_)) q
    · obtain ⟨t, b, ht⟩ := kind_file.mp (of_decide_eq_true hb)
      rcases hL.look k with ⟨h1, h2⟩ | ⟨e, v, h1, h2, r, rfl, hr2⟩
      · rw [ht] at h1
        cases h1
      · rw [ht] at h1
        cases Option.some.inj h1
        rw [ht]
        exact ev_op (ev_dget (ev_fld (ev_var rfl) hp TC.cl TC.na (flds_get d)) (ev_var rfl) hd h2) ev_c (rv_ix0 (i := 1) (st_of hr2) rfl)
    · have e : readV (look es k) = .non := by
        cases h : look es k with
        | none => rfl
        | some e =>
          cases e with
          | file t b => exact absurd (kind_file.mpr ⟨t, b, h⟩) (of_decide_eq_false hb)
          | link t => rfl
      rw [e]
      exact ev_c
theorem read_sp {C p d : Addr} {H : Hp} {es : List (List Nat × Ent)} {k : List Nat} (T : Tr C H p d es) : SpV (sp_Tree_read C K) [.ref p, .str (S k)] H (readV (look es k)) := fun H1 e Q q E => ⟨p, d, es, k, rfl, T.mono e, fun H2 e2 => q H2 e2⟩
def sp_Tree_writer (C : Addr) (_ : PySem.W.Frag) : Sp := fun vs H Q _ => ∃ (p d : Addr) (es : List (List Nat × Ent)) (k : List Nat), vs = [.ref p, .str (S k)] ∧ Tr C H p d es ∧ Rt H (writerV (look es k)) Q
theorem ok_Tree_writer {f C : Addr} {fd : FuncData} (F : Fun K "writer" "Tree.writer" s_Tree_writer f fd) (T : Tx mg) (G : Gx K mg) (TC : Tc K C) (M_Tree_kind : Kn.Mt P w K mg base 1 C "kind" (sp_Tree_kind C K)) : FnOk P w K mg base CX0 2 f fd ["self", "path"] (sp_Tree_writer C K) := by
  refine F.ok sc_Tree_writer (fun vs H Q E h => ?_) (fun cdv A outer s H vs Q E hr h => ?_)
  · obtain ⟨p, d, es, k, rfl, _⟩ := h
    rfl
  · obtain ⟨p, d, es, k, rfl, TR, q⟩ := h
    refine ⟨_, (pss_one (ps_ret (pe_ifExp (pt_cmpR op_eq (Kn.pe_mt M_Tree_kind hr (by decide) (pv 0) (pa_cons (pv 1) pa_nil)) pe_str (nomark _)) (pe_ix ix_tup (pe_dget (hu_of hr) (pe_fld (pv 0) rfl) (pv 1) (fun _ _ => rfl)) pe_int (fun _ _ => rfl)) pe_non))), ?_⟩
    obtain ⟨⟨dx, hp⟩, kvs, hd, hL⟩ := id TR
    refine s_ret (v := writerV (look es k)) (ev_if (b := decide (kindL (look es k) = eFile)) (et_test (ev_op (ev_meth (ev_var rfl) hp (flds_no d (by decide +kernel)) (ea_cons (ev_var rfl) ea_nil) (kind_sp TR)) (ev_cS (l := eFile) rfl) rv_eqS)) (fun hb => ?_) (fun hb => ?_)) q
    · obtain ⟨t, b, ht⟩ := kind_file.mp (of_decide_eq_true hb)
      rcases hL.look k with ⟨h1, h2⟩ | ⟨e, v, h1, h2, r, rfl, hr2⟩
      · rw [ht] at h1
        cases h1
      · rw [ht] at h1
        cases Option.some.inj h1
        rw [ht]
        exact ev_op (ev_dget (ev_fld (ev_var rfl) hp TC.cl TC.na (flds_get d)) (ev_var rfl) hd h2) ev_c (rv_ix0 (i := 2) (st_of hr2) rfl)
    · have e : writerV (look es k) = .non := by
        cases h : look es k with
        | none => rfl
        | some e =>
          cases e with
          | file t b => exact absurd (kind_file.mpr ⟨t, b, h⟩) (of_decide_eq_false hb)
          | link t => rfl
      rw [e]
      exact ev_c
theorem writer_sp {C p d : Addr} {H : Hp} {es : List (List Nat × Ent)} {k : List Nat} (T : Tr C H p d es) : SpV (sp_Tree_writer C K) [.ref p, .str (S k)] H (writerV (look es k)) := fun H1 e Q q E => ⟨p, d, es, k, rfl, T.mono e, fun H2 e2 => q H2 e2⟩
end

section
variable {P : Program} {w : World} {K : PySem.W.Frag} {mg : Str → Option Value} {base : Heap}
def keysE (es : List (List Nat × Ent)) : List Str := es.map fun x => S x.1
def sp_Tree_paths (C : Addr) (_ : PySem.W.Frag) : Sp := fun vs H Q _ => ∃ (p d : Addr) (es : List (List Nat × Ent)), vs = [.ref p] ∧ Tr C H p d es ∧ es.length ≤ 30000 ∧ ∀ ys, ys.Perm (keysE es) → sortedS ys = true → Rl H (ys.map V.str) Q
theorem ok_Tree_paths {f C : Addr} {fd : FuncData} (F : Fun K "paths" "Tree.paths" s_Tree_paths f fd) (T : Tx mg) (G : Gx K mg) (TC : Tc K C)  : FnOk P w K mg base CX0 1 f fd ["self"] (sp_Tree_paths C K) := by
  refine F.ok sc_Tree_paths (fun vs H Q E h => ?_) (fun cdv A outer s H vs Q E hr h => ?_)
  · obtain ⟨p, d, es, rfl, _⟩ := h
    rfl
  · obtain ⟨p, d, es, rfl, TR, hl, q⟩ := h
    refine ⟨_, (pss_one (ps_ret (pe_callB (Kn.cr_sortDA rfl) (by rfl) T.b_sorted (by decide +kernel) (pa_cons (pe_fld (pv 0) rfl) pa_nil)))), ?_⟩
    obtain ⟨⟨dx, hp⟩, kvs, hd, hL⟩ := id TR
    refine ev_fld (ev_var rfl) hp TC.cl TC.na (flds_get d) H (Ex.refl _) _ fun H1 e1 => ⟨d, kvs, keysE es, rfl, .inl (e1 _ _ hd), ?_, ?_, fun ys l hperm hs hn => ?_⟩
    · rw [hL.keys]; rfl
    · unfold keysE
      rw [List.length_map]
      omega
    · exact q ys hperm hs l _ (fresh_back e1 hn) (e1.trans (Ex.new hn)) upd_same
def sp__law_cell (K : PySem.W.Frag) : Sp := sp3 (fun (a : Addr) (_ : List Int) (k : Nat) => [.ref a, .int (k : Int)]) (fun a ns _ H => SqL K H a (ns.map V.int)) (fun _ ns k => .int (L2.cellOf ns k))
theorem ok__law_cell {f : Addr} {fd : FuncData} (F : Fun K "_law_cell" "_law_cell" s__law_cell f fd) (T : Tx mg) (G : Gx K mg)  : FnOk P w K mg base CX0 1 f fd ["script", "k"] (sp__law_cell K) := by
  refine F.ok sc__law_cell (fun vs H Q E h => ?_) (fun cdv A outer s H vs Q E hr h => ?_)
  · obtain ⟨a, ns, k, rfl, _⟩ := h
    rfl
  · obtain ⟨a, ns, k, rfl, hS, q⟩ := h
    refine ⟨_, (pss_cons (ps_if (pt_cmpR op_lt (pv 1) (pe_callB Kn.cr_lenSeq (by rfl) T.b_len PySem.boot_len (pa_cons (pv 0) pa_nil)) (nomark _)) (pss_one (ps_ret (pe_callTy Kn.cr_int1 (by rfl) T.b_int (by decide +kernel) (pa_cons (pe_ix ix_list (pv 0) (pv 1) (fun _ _ => rfl)) pa_nil)))) pss_nil)
      (pss_one (ps_ret pe_int))), ?_⟩
    refine q_when (et_test (ev_op (ev_var rfl) (ev_len (ev_var rfl) hS) rv_lt)) (fun hb H1 e1 => ?_) (fun hb H1 e1 => ?_)
    · have hk : k < ns.length := by
        rw [List.length_map, decide_eq_true_eq] at hb
        omega
      exact s_ret (ev_cb (ea_cons (ev_op (ev_var rfl) (ev_var rfl) (rv_ixL (ex_l e1 hS) (atI_cell hk))) ea_nil) rc_int) fun H2 e2 => q H2 (e1.trans e2)
    · have hk : ¬ k < ns.length := by
        rw [List.length_map, decide_eq_false_iff_not] at hb
        omega
      refine s_ret ev_c fun H2 e2 => ?_
      have z : Q (.int (L2.cellOf ns k)) H2 := q H2 (e1.trans e2)
      rw [cell_out hk] at z
      exact z
theorem ev_cellA {σ : L2.St} {H : Hp} {a : Addr} {ns : List Int} {c : Nat} {ta : TA} (h : EvA ta σ H [.ref a, .int (c : Int)]) (hS : SqL K H a (ns.map V.int)) : Ev (tCB rAbs (tCons (tCall (sp__law_cell K) [] E0 ta) tNil)) σ H (.int (((L2.cellOf ns c).natAbs : Nat) : Int)) :=
  ev_cb (ea_cons (ev_c3 (a := a) (b := ns) (c := c) h fun H1 e1 => ex_l e1 hS) ea_nil) rc_abs

/-! ### a person's deed -/
def dDone : PyData := .tuple [.str (S (Str.ofString "done").cps.toList), .none]
def wFull : List Nat := (Str.ofString "full").cps.toList
def dFull (k : List Nat) : PyData := .tuple [.str (S wFull), .str (S k), .bool true, .bool false]
def persE (lnk : Bool) : Ent := if lnk = true then .link [120] else .file [116] ePerson
theorem persE_is (b : Bool) : isPers (persE b) = true := by cases b <;> decide +kernel
def PersQ (C : Addr) (H : Hp) (p d : Addr) (es : List (List Nat × Ent)) (k : List Nat) (lnk : Bool) (Q : VK) : Prop :=
  (hasRoom es k = false → ∀ v H', Ex H H' → Dt H' v (dFull k) → Q v H') ∧ (hasRoom es k = true → ∀ v H', Dt H' v dDone → Tr C H' p d (put es k (persE lnk)) → Keeps H H' d → Q v H')
def sp__law_personal (C : Addr) (G : Gx K mg) : Sp := fun vs H Q _ => ∃ (p d : Addr) (es : List (List Nat × Ent)) (k : List Nat) (lnk : Bool), vs = [.ref p, .str (S k), .bl lnk] ∧ Tr C H p d es ∧ es.length ≤ 30000 ∧ k.length ≤ 30000 ∧ pathOk k = true ∧ PersQ C H p d es k lnk Q
theorem ok__law_personal {f C : Addr} {fd : FuncData} (F : Fun K "_law_personal" "_law_personal" s__law_personal f fd) (T : Tx mg) (G : Gx K mg) (TC : Tc K C) (M_Tree_write : Kn.MtX P w K mg base 4 C "write" (sp_Tree_write C G)) (M_Tree_link : Kn.MtX P w K mg base 3 C "link" (sp_Tree_link C G)) : FnOk P w K mg base CX0 5 f fd ["tree", "path", "is_link"] (sp__law_personal C G) := by
  refine F.ok sc__law_personal (fun vs H Q E h => ?_) (fun cdv A outer s H vs Q E hr h => ?_)
  · obtain ⟨p, d, es, k, lnk, rfl, _⟩ := h
    rfl
  · obtain ⟨p, d, es, k, lnk, rfl, TR, hlen, hk, pk, qb, qg⟩ := h
    refine ⟨_, (pss_one (ps_try_as (i := 3) (tb := fun W => (tSeq (tIfS (tB (tVar 2)) (tRet (tTup (tCons (tC (.str (Str.ofString "done"))) (tCons (tMethX C "link" (sp_Tree_link C G) (WE W) (tVar 0) (tCons (tVar 1) (tCons (tC (.str (Str.ofString "x"))) tNil))) tNil)))) tNext) (tRet (tTup (tCons (tC (.str (Str.ofString "done"))) (tCons (tMethX C "write" (sp_Tree_write C G) (WE W) (tVar 0) (tCons (tVar 1) (tCons (tC (.str (Str.ofString "t"))) (tCons (tC (.str (Str.ofString "person"))) tNil)))) tNil)))))) (ts := fun a cls d => (tRet (tTup (tCons (tC (.str (Str.ofString "full"))) (tCons (tXf a cls d G.c_TreeFull "path" (tVar 3)) (tCons (tCB (rIsX K a cls d) (tCons (tVar 3) (tCons (tC (.ref G.c_BuildError)) tNil))) (tCons (tCB (rIsX K a cls d) (tCons (tVar 3) (tCons (tC (.ref G.c_NoEntry)) tNil))) tNil))))))) (Wout := (fun _ _ _ _ => False)) rfl rfl sc__law_personal.nd rfl rfl ⟨rfl, by decide, Or.inl G.g_TreeFull⟩ takes0
      (fun W pn xe tk _ => (pss_cons (ps_if (pt_val (pv 2)) (pss_one (ps_ret (pe_tup (pa_cons pe_str (pa_cons (Kn.pe_mtX M_Tree_link hr (by decide) tk (pv 0) (pa_cons (pv 1) (pa_cons pe_str pa_nil))) pa_nil))))) pss_nil)
      (pss_one (ps_ret (pe_tup (pa_cons pe_str (pa_cons (Kn.pe_mtX M_Tree_write hr (by decide) tk (pv 0) (pa_cons (pv 1) (pa_cons pe_str (pa_cons pe_str pa_nil)))) pa_nil)))))))
      (fun a oe cls d pn hz hf => (pss_one (ps_ret (pe_tup (pa_cons pe_str (pa_cons (pe_xf G.x_TreeFull.xf G.n_TreeFull_path hz hf (pv 3)) (pa_cons (pe_callB (Kn.cr_isX hz hf) rfl T.b_isinstance (by decide +kernel) (pa_cons (pv 3) (pa_cons (pe_glob rfl G.g_BuildError rfl) pa_nil))) (pa_cons (pe_callB (Kn.cr_isX hz hf) rfl T.b_isinstance (by decide +kernel) (pa_cons (pv 3) (pa_cons (pe_glob rfl G.g_NoEntry rfl) pa_nil))) pa_nil)))))))))), ?_⟩
    have fin : ∀ {H1 : Hp} (T1 : Tr C H1 p d (put es k (persE lnk))) (k1 : Keeps H H1 d) (h0 : hasRoom es k = true), [V.str (Str.ofString "done"), V.non].length ≤ sizeLine ∧ ∀ q, H1 q = none → Q (.ref q) (L2.upd H1 q (.tup [.str (Str.ofString "done"), .non])) := fun T1 k1 h0 =>
      ⟨sz_of (by show 2 ≤ 100000; decide), fun q hq => qg h0 _ _ (.tup upd_same (.cons (by rw [S1 (Str.ofString "done") (l := (Str.ofString "done").cps.toList) rfl]; exact .str _) (.cons .non .nil))) (T1.mono (Ex.new hq)) fun b o hb hne => Ex.new hq _ _ (k1 b o hb hne)⟩
    have rF : ∀ {H1 : Hp} {σ : L2.St} {D : Ends} {a dd : Addr}, Ex H H1 → hasRoom es k = false → D.rt = Q → σ.length = 4 → H1 dd = some (.xd [("path", .str (S k))]) → tRet (tTup (tCons (tC (.str (Str.ofString "full"))) (tCons (tXf a (.ref G.c_TreeFull) (some dd) G.c_TreeFull "path" (tVar 3)) (tCons (tCB (rIsX K a (.ref G.c_TreeFull) (some dd)) (tCons (tVar 3) (tCons (tC (.ref G.c_BuildError)) tNil))) (tCons (tCB (rIsX K a (.ref G.c_TreeFull) (some dd)) (tCons (tVar 3) (tCons (tC (.ref G.c_NoEntry)) tNil))) tNil))))) D (σ.set 3 (some (.ref a))) H1 := fun {H1 σ D a dd} e1 h0 hD hσ hd => by
      have hs : (σ.set 3 (some (V.ref a)))[3]? = some (some (.ref a)) := by rw [List.getElem?_set_self (by omega)]
      refine ⟨_, hs, rfl, rfl, dd, _, .str (S k), rfl, hd, by simp [List.lookup], ?_⟩
      refine ⟨_, hs, _, dd, _, .ref G.c_BuildError, _, true, rfl, rfl, G.x_TreeFull.xc, hd, rfl, fun u h => h, G.x_TreeFull.kB, ?_⟩
      refine ⟨_, hs, _, dd, _, .ref G.c_NoEntry, _, false, rfl, rfl, G.x_TreeFull.xc, hd, rfl, fun u h => h, G.k_TreeFull_NoEntry, ?_⟩
      refine ⟨sz_of (by show 4 ≤ 100000; decide), fun p hp => ?_⟩
      rw [hD]
      exact qb h0 _ _ (e1.trans (Ex.new hp)) (.tup upd_same (.cons (by rw [S1 (Str.ofString "full") (l := wFull) rfl]; exact .str _) (.cons (.str _) (.cons (.bl _) (.cons (.bl _) .nil)))))
    refine q_when (b := lnk) (et_B (ev_var rfl)) (fun hb H1 e1 => ?_) fun hb H1 e1 => ?_
    · subst hb
      have T1 := TR.mono e1
      obtain ⟨⟨dx, hp⟩, _⟩ := id T1
      refine done_ret rfl hp (flds_no d (by decide +kernel)) (ea_cons (ev_var rfl) (ea_cons (ev_cS (l := [120]) rfl) ea_nil)) fun H2 e2 => ?_
      have e12 := e1.trans e2
      refine ⟨p, d, es, k, [120], rfl, T1.mono e2, by omega, ⟨hk, by decide⟩, fun z => ?_, fun _ z => ?_, fun _ _ z dd H' e hd => ?_, fun _ _ z H' T' k' => ?_⟩
      · rw [pk] at z
        cases z
      · rw [show pathOk [120] = true by decide +kernel] at z
        cases z
      · exact as_hit G.x_TreeFull.me fun a na => rF (e12.trans e) z rfl rfl hd
      · exact fin T' (fun b o hb hne => k' b o (e12 _ _ hb) hne) z
    · subst hb
      have T1 := TR.mono e1
      obtain ⟨⟨dx, hp⟩, _⟩ := id T1
      refine done_ret rfl hp (flds_no d (by decide +kernel)) (ea_cons (ev_var rfl) (ea_cons (ev_cS (l := [116]) rfl) (ea_cons (ev_cS (l := ePerson) rfl) ea_nil))) fun H2 e2 => ?_
      have e12 := e1.trans e2
      refine ⟨p, d, es, k, [116], ePerson, rfl, T1.mono e2, by omega, ⟨hk, by decide⟩, fun z => ?_, fun _ z => ?_, fun _ _ z dd H' e hd => ?_, fun _ _ z H' T' k' => ?_⟩
      · rw [pk] at z
        cases z
      · rw [show contOk [116] = true by decide +kernel] at z
        cases z
      · rw [decide_eq_true rfl, Bool.true_and] at z
        exact as_hit G.x_TreeFull.me fun a na => rF (e12.trans e) (nb z) rfl rfl hd
      · rw [decide_eq_true rfl, Bool.true_and] at z
        exact fin T' (fun b o hb hne => k' b o (e12 _ _ hb) hne) (nf z)
/-! ### who has entries -/
def pN (n : Nat) : List Nat := [112] ++ TL.numL n
def bN (n : Nat) : List Nat := [98] ++ TL.numL n
theorem num_inj : ∀ a < 100, ∀ b < 100, TL.numL a = TL.numL b → a = b := by decide +kernel
theorem pN_inj {a b : Nat} (ha : a < 100) (hb : b < 100) (h : pN a = pN b) : a = b := num_inj a ha b hb (List.cons.inj h).2
theorem pN_bN {a b : Nat} : pN a ≠ bN b := fun h => by
  have := (List.cons.inj h).1
  omega
theorem pN_facts : ∀ n < 100, (pathOk (pN n) && (okS (pN n) && (decide ((pN n).length ≤ 30000) && (pathOk (bN n) && (okS (bN n) && decide ((bN n).length ≤ 30000)))))) = true := by decide +kernel
structure Nm (k : List Nat) : Prop where
  p : pathOk k = true
  o : okS k = true
  l : k.length ≤ 30000
theorem nm_p {n : Nat} (h : n < 100) : Nm (pN n) := by
  have z := pN_facts n h
  simp only [Bool.and_eq_true, decide_eq_true_eq] at z
  exact ⟨z.1, z.2.1, z.2.2.1⟩
theorem nm_b {n : Nat} (h : n < 100) : Nm (bN n) := by
  have z := pN_facts n h
  simp only [Bool.and_eq_true, decide_eq_true_eq] at z
  exact ⟨z.2.2.2.1, z.2.2.2.2.1, z.2.2.2.2.2⟩
def eBuild : List Nat := (Str.ofString "build").cps.toList
def bE : Ent := .file [98] eBuild
theorem bE_is : isPers bE = false := by decide +kernel
/-- the persons' entries are those at p0, p1, .. up to m -/
structure Ps (es : List (List Nat × Ent)) (m : Nat) : Prop where
  nd : (es.map (·.1)).Nodup
  ok : ∀ x ∈ es, okS x.1 = true
  pe : ∀ k, (∃ e, look es k = some e ∧ isPers e = true) ↔ ∃ j, j < m ∧ k = pN j
theorem put_keys {es : List (List Nat × Ent)} {k : List Nat} {e : Ent} : (put es k e).map (·.1) = if (es.any fun x => decide (x.1 = k)) = true then es.map (·.1) else es.map (·.1) ++ [k] := by
  unfold put
  split
  · rw [List.map_map]
    refine List.map_congr_left fun x _ => ?_
    show (if x.1 = k then (x.1, e) else x).1 = x.1
    split <;> rfl
  · rw [List.map_append]
    rfl
theorem put_nd {es : List (List Nat × Ent)} {k : List Nat} {e : Ent} (h : (es.map (·.1)).Nodup) : ((put es k e).map (·.1)).Nodup := by
  rw [put_keys]
  split
  · exact h
  · next hn =>
    refine List.nodup_append.mpr ⟨h, by simp, fun a ha b hb => ?_⟩
    rw [List.mem_singleton] at hb
    subst hb
    intro e2
    subst e2
    obtain ⟨x, hx, e3⟩ := List.mem_map.mp ha
    exact hn (List.any_eq_true.mpr ⟨x, hx, decide_eq_true e3⟩)
theorem put_ok {es : List (List Nat × Ent)} {k : List Nat} {e : Ent} (h : ∀ x ∈ es, okS x.1 = true) (hk : okS k = true) : ∀ x ∈ put es k e, okS x.1 = true := fun x hx => by
  rcases put_mem hx with z | z
  · exact h x z
  · rw [z]; exact hk
/-- a build's file where no person's entry is -/
theorem Ps.build {es : List (List Nat × Ent)} {m : Nat} {k : List Nat} (h : Ps es m) (hk : okS k = true) (hn : ∀ j, j < m → k ≠ pN j) : Ps (put es k bE) m := by
  refine ⟨put_nd h.nd, put_ok h.ok hk, fun k2 => ?_⟩
  rw [look_put]
  by_cases e : k2 = k
  · rw [if_pos e]
    refine ⟨fun ⟨e2, h1, h2⟩ => ?_, fun ⟨j, h1, h2⟩ => absurd (e.symm.trans h2) (hn j h1)⟩
    cases Option.some.inj h1
    rw [bE_is] at h2
    cases h2
  · rw [if_neg e]
    exact h.pe k2
theorem Ps.more {es : List (List Nat × Ent)} {m : Nat} {b : Bool} (h : Ps es m) (hm : m < 100) : Ps (put es (pN m) (persE b)) (m + 1) := by
  refine ⟨put_nd h.nd, put_ok h.ok (nm_p hm).o, fun k2 => ?_⟩
  rw [look_put]
  by_cases e : k2 = pN m
  · rw [if_pos e]
    exact ⟨fun _ => ⟨m, by omega, e⟩, fun _ => ⟨_, rfl, persE_is b⟩⟩
  · rw [if_neg e, h.pe k2]
    refine ⟨fun ⟨j, h1, h2⟩ => ⟨j, by omega, h2⟩, fun ⟨j, h1, h2⟩ => ⟨j, ?_, h2⟩⟩
    by_cases hj : j = m
    · subst hj
      exact absurd h2 e
    · omega
theorem Ps.again {es : List (List Nat × Ent)} {m j : Nat} {b : Bool} (h : Ps es m) (hj : j < m) (hm : m ≤ 100) : Ps (put es (pN j) (persE b)) m := by
  refine ⟨put_nd h.nd, put_ok h.ok (nm_p (by omega)).o, fun k2 => ?_⟩
  rw [look_put]
  by_cases e : k2 = pN j
  · rw [if_pos e]
    exact ⟨fun _ => ⟨j, hj, e⟩, fun _ => ⟨_, rfl, persE_is b⟩⟩
  · rw [if_neg e, h.pe k2]
theorem persons_eq (es : List (List Nat × Ent)) : persons es = (es.filter fun x => isPers x.2).length := by
  have e : (List.range es.length).map (fun i => es[i]?) = es.map some := by
    refine List.ext_getElem (by simp) fun i h1 h2 => ?_
    simp at h1 h2
    simp [h2]
  have h : ((List.range es.length).map (fun i => es[i]?)).filter (fun o => (o.map fun x => isPers x.2).getD false) = (es.map some).filter (fun o => (o.map fun x => isPers x.2).getD false) := by rw [e]
  rw [List.filter_map, List.filter_map] at h
  have h2 := congrArg List.length h
  rw [List.length_map, List.length_map] at h2
  exact h2
theorem mem_filt {es : List (List Nat × Ent)} (nd : (es.map (·.1)).Nodup) {k : List Nat} : k ∈ (es.filter fun x => isPers x.2).map (·.1) ↔ ∃ e, look es k = some e ∧ isPers e = true := by
  have lk : ∀ {es : List (List Nat × Ent)}, (es.map (·.1)).Nodup → ∀ x ∈ es, look es x.1 = some x.2 := by
    intro es
    induction es with
    | nil => intro _ x hx; exact nomatch hx
    | cons y r ih =>
      intro nd x hx
      rw [List.map_cons, List.nodup_cons] at nd
      rw [look_cons]
      rcases List.mem_cons.mp hx with z | z
      · rw [z, if_pos rfl]
      · rw [if_neg (fun e => nd.1 (List.mem_map.mpr ⟨x, z, e.symm⟩))]
        exact ih nd.2 x z
  constructor
  · intro h
    obtain ⟨x, hx, rfl⟩ := List.mem_map.mp h
    obtain ⟨h1, h2⟩ := List.mem_filter.mp hx
    exact ⟨x.2, lk nd x h1, h2⟩
  · rintro ⟨e, h1, h2⟩
    exact List.mem_map.mpr ⟨(k, e), List.mem_filter.mpr ⟨look_mem h1, h2⟩, rfl⟩
theorem range_nd {m : Nat} (hm : m ≤ 100) : ((List.range m).map pN).Nodup := by
  refine List.pairwise_map.mpr (List.nodup_range.imp_of_mem fun {a b} ha hb h e => h (pN_inj ?_ ?_ e))
  · have := List.mem_range.mp ha; omega
  · have := List.mem_range.mp hb; omega
theorem Ps.perm {es : List (List Nat × Ent)} {m : Nat} (h : Ps es m) (hm : m ≤ 100) : ((es.filter fun x => isPers x.2).map (·.1)).Perm ((List.range m).map pN) := by
  refine (List.perm_ext_iff_of_nodup (List.Nodup.sublist (List.Sublist.map _ List.filter_sublist) h.nd) (range_nd hm)).mpr fun k => ?_
  rw [mem_filt h.nd, h.pe k]
  constructor
  · rintro ⟨j, h1, rfl⟩
    exact List.mem_map.mpr ⟨j, List.mem_range.mpr h1, rfl⟩
  · intro h2
    obtain ⟨j, h1, h3⟩ := List.mem_map.mp h2
    exact ⟨j, List.mem_range.mp h1, h3.symm⟩
theorem Ps.count {es : List (List Nat × Ent)} {m : Nat} (h : Ps es m) (hm : m ≤ 100) : persons es = m := by
  have e := (h.perm hm).length_eq
  rw [persons_eq]
  simpa using e
theorem Ps.room {es : List (List Nat × Ent)} {m : Nat} (h : Ps es m) (hm : m ≤ 100) (k : List Nat) : hasRoom es k = (decide (∃ j, j < m ∧ k = pN j) || decide (m < 60)) := by
  unfold hasRoom
  rw [h.count hm]
  have e1 : ((look es k).isSome && ((look es k).map isPers).getD false) = decide (∃ j, j < m ∧ k = pN j) := by
    rw [Bool.eq_iff_iff, decide_eq_true_eq, ← h.pe k]
    cases look es k with
    | none => simp
    | some e => simp
  rw [e1]
  congr 1
  rw [decide_eq_decide]
  omega
end

section
variable {P : Program} {w : World} {K : PySem.W.Frag} {mg : Str → Option Value} {base : Heap}
structure Pl (es : List (List Nat × Ent)) (L : List (List Nat)) : Prop where
  nd : (es.map (·.1)).Nodup
  ok : ∀ x ∈ es, okS x.1 = true
  pe : ∀ k, (∃ e, look es k = some e ∧ isPers e = true) ↔ k ∈ L
theorem Ps.pl {es : List (List Nat × Ent)} {m : Nat} (h : Ps es m) : Pl es ((List.range m).map pN) := ⟨h.nd, h.ok, fun k => by
  rw [h.pe k]
  constructor
  · rintro ⟨j, h1, rfl⟩
    exact List.mem_map.mpr ⟨j, List.mem_range.mpr h1, rfl⟩
  · intro h2
    obtain ⟨j, h1, h3⟩ := List.mem_map.mp h2
    exact ⟨j, List.mem_range.mp h1, h3.symm⟩⟩
theorem Pl.count {es : List (List Nat × Ent)} {L : List (List Nat)} (h : Pl es L) (hL : L.Nodup) : persons es = L.length := by
  have p : ((es.filter fun x => isPers x.2).map (·.1)).Perm L := (List.perm_ext_iff_of_nodup (List.Nodup.sublist (List.Sublist.map _ List.filter_sublist) h.nd) hL).mpr fun k => by rw [mem_filt h.nd, h.pe k]
  have e := p.length_eq
  rw [persons_eq]
  simpa using e
theorem Pl.room {es : List (List Nat × Ent)} {L : List (List Nat)} (h : Pl es L) (hL : L.Nodup) (k : List Nat) : hasRoom es k = (decide (k ∈ L) || decide (L.length < 60)) := by
  unfold hasRoom
  rw [h.count hL]
  have e1 : ((look es k).isSome && ((look es k).map isPers).getD false) = decide (k ∈ L) := by
    rw [Bool.eq_iff_iff, decide_eq_true_eq, ← h.pe k]
    cases look es k with
    | none => simp
    | some e => simp
  rw [e1]
  congr 1
  rw [decide_eq_decide]
  omega
theorem look_drop {k j : List Nat} : ∀ {es : List (List Nat × Ent)}, look (dropE es k) j = if j = k then none else look es j
  | [] => by
    show (none : Option Ent) = _
    split <;> rfl
  | x :: r => by
    have ih := look_drop (k := k) (j := j) (es := r)
    unfold dropE at ih ⊢
    rw [List.filter_cons]
    by_cases hx : x.1 = k
    · rw [if_neg (by rw [decide_eq_true hx]; decide), ih, look_cons]
      by_cases hj : j = k
      · rw [if_pos hj, if_pos hj]
      · rw [if_neg hj, if_neg hj, if_neg (fun z => hj (z.symm.trans hx))]
    · rw [if_pos (by rw [decide_eq_false hx]; rfl), look_cons, ih, look_cons]
      by_cases hj : j = k
      · rw [if_pos hj, if_pos hj, if_neg (fun z => hx (z.trans hj))]
      · rw [if_neg hj, if_neg hj]
theorem Pl.drop {es : List (List Nat × Ent)} {L : List (List Nat)} {k : List Nat} (h : Pl es L) : Pl (dropE es k) (L.filter fun j => !decide (j = k)) := by
  refine ⟨List.Nodup.sublist (List.Sublist.map _ List.filter_sublist) h.nd, fun x hx => h.ok x (List.mem_filter.mp hx).1, fun j => ?_⟩
  rw [look_drop, List.mem_filter]
  by_cases hj : j = k
  · rw [if_pos hj]
    refine ⟨(fun ⟨_, z, _⟩ => nomatch z), fun ⟨_, z⟩ => ?_⟩
    rw [decide_eq_true hj] at z
    cases z
  · rw [if_neg hj, h.pe j]
    exact ⟨fun z => ⟨z, by rw [decide_eq_false hj]; rfl⟩, fun z => z.1⟩
theorem Pl.more {es : List (List Nat × Ent)} {L : List (List Nat)} {k : List Nat} {b : Bool} (h : Pl es L) (hk : okS k = true) : Pl (put es k (persE b)) (L ++ [k]) := by
  refine ⟨put_nd h.nd, put_ok h.ok hk, fun j => ?_⟩
  rw [look_put, List.mem_append, List.mem_singleton]
  by_cases hj : j = k
  · rw [if_pos hj]
    exact ⟨fun _ => .inr hj, fun _ => ⟨_, rfl, persE_is b⟩⟩
  · rw [if_neg hj, h.pe j]
    exact ⟨.inl, fun z => z.resolve_right hj⟩
def L60 : List (List Nat) := (List.range 60).map pN
def L59 : List (List Nat) := L60.filter fun j => !decide (j = pN 2)
theorem l60 : L60.Nodup ∧ L60.length = 60 ∧ ¬ bN 99 ∈ L60 := by decide +kernel
theorem l59 : L59.Nodup ∧ L59.length = 59 ∧ (L59 ++ [bN 99]).Nodup ∧ (L59 ++ [bN 99]).length = 60 ∧ ¬ pN 2 ∈ L59 ++ [bN 99] := by decide +kernel
/-! ### the tree and the law's persons -/
def keysP (m : Nat) : List Str := (List.range m).map fun j => S (pN j)
structure W9 (C : Addr) (H0 H' : Hp) (p d dl : Addr) (es : List (List Nat × Ent)) (m : Nat) : Prop where
  ex : Ex H0 H'
  tr : Tr C H' p d es
  kn : ∃ kvs, H' dl = some (.dK kvs) ∧ kvs.map (·.1) = (keysP m).map Sum.inr
  n1 : H0 d = none
  n2 : H0 dl = none
  x1 : d ≠ dl
theorem W9.mono {C : Addr} {H0 H H1 : Hp} {p d dl : Addr} {es : List (List Nat × Ent)} {m : Nat} (h : W9 C H0 H p d dl es m) (e : Ex H H1) : W9 C H0 H1 p d dl es m := by
  obtain ⟨ex, tr, ⟨k1, a1, b1⟩, n1, n2, x1⟩ := h
  exact ⟨ex.trans e, tr.mono e, ⟨k1, e _ _ a1, b1⟩, n1, n2, x1⟩
theorem W9.deed {C : Addr} {H0 H H1 : Hp} {p d dl : Addr} {es es' : List (List Nat × Ent)} {m : Nat} (h : W9 C H0 H p d dl es m) (T : Tr C H1 p d es') (k : Keeps H H1 d) : W9 C H0 H1 p d dl es' m := by
  obtain ⟨ex, tr, ⟨k1, a1, b1⟩, n1, n2, x1⟩ := h
  exact ⟨fun b o hb => k b o (ex _ _ hb) (ne_of_none hb n1), T, ⟨k1, k _ _ a1 x1.symm, b1⟩, n1, n2, x1⟩
theorem keysP_succ (m : Nat) : keysP (m + 1) = keysP m ++ [S (pN m)] := by
  unfold keysP
  rw [List.range_succ, List.map_append]
  rfl
theorem keysP_mem {m i : Nat} (hm : m ≤ 100) (hi : i < 100) : S (pN i) ∈ keysP m ↔ i < m := by
  unfold keysP
  rw [List.mem_map]
  constructor
  · rintro ⟨j, h1, h2⟩
    have hj := List.mem_range.mp h1
    have := pN_inj (by omega) hi (S_inj h2)
    omega
  · intro h
    exact ⟨i, List.mem_range.mpr h, rfl⟩
theorem key_in {kvs : List (Key × V)} {m i : Nat} (h : kvs.map (·.1) = (keysP m).map Sum.inr) (hm : m ≤ 100) (hi : i < 100) : (valV kvs (Sum.inr (S (pN i)))).isSome = decide (i < m) := by
  rw [← valV_any, Bool.eq_iff_iff, List.any_eq_true, decide_eq_true_eq, ← keysP_mem hm hi]
  constructor
  · rintro ⟨kv, h1, h2⟩
    have h3 : kv.1 ∈ (keysP m).map Sum.inr := by rw [← h]; exact List.mem_map.mpr ⟨kv, h1, rfl⟩
    obtain ⟨x, h4, h5⟩ := List.mem_map.mp h3
    rw [of_decide_eq_true h2] at h5
    rw [← Sum.inr.inj h5]
    exact h4
  · intro h1
    have h3 : (Sum.inr (S (pN i)) : Key) ∈ kvs.map (·.1) := by rw [h]; exact List.mem_map.mpr ⟨_, h1, rfl⟩
    obtain ⟨kv, h4, h5⟩ := List.mem_map.mp h3
    exact ⟨kv, h4, decide_eq_true h5⟩
theorem W9.known {C : Addr} {H0 H : Hp} {p d dl : Addr} {es : List (List Nat × Ent)} {m : Nat} {kvs : List (Key × V)} {v : V} (h : W9 C H0 H p d dl es m) (hd : H dl = some (.dK kvs)) (hk : kvs.map (·.1) = (keysP m).map Sum.inr) (hm : m < 100) :
    W9 C H0 (L2.upd H dl (.dK (putK kvs (Sum.inr (S (pN m))) v))) p d dl es (m + 1) := by
  obtain ⟨ex, tr, _, n1, n2, x1⟩ := h
  have hn : (kvs.any fun kv => decide (kv.1 = (Sum.inr (S (pN m)) : Key))) = false := by
    have := key_in hk (by omega) hm
    rw [← valV_any] at this
    rw [this]
    exact decide_eq_false (by omega)
  refine ⟨fun b o hb => by rw [upd_ne (ne_of_none (hb) n2)]; exact ex _ _ hb, ?_, ⟨_, upd_same, ?_⟩, n1, n2, x1⟩
  · obtain ⟨⟨dx, h1⟩, kv, h2, h3⟩ := tr
    refine ⟨⟨dx, by rw [upd_ne (ne_of h1 hd (by intro z; cases z))]; exact h1⟩, kv, by rw [upd_ne x1]; exact h2, h3.mono fun a v ⟨q, z1, z2⟩ => ⟨q, z1, by rw [upd_ne (ne_of z2 hd (by intro z; cases z))]; exact z2⟩⟩
  · unfold putK
    rw [if_neg (by rw [hn]; decide), List.map_append, hk, keysP_succ, List.map_append]
    rfl
theorem W9.klen {kvs : List (Key × V)} {m : Nat} (hk : kvs.map (·.1) = (keysP m).map Sum.inr) : kvs.length = m := by
  have := congrArg List.length hk
  simpa [keysP] using this
theorem shFull {k : List Nat} (h : okS k = true) : SeqAt.shaped (dFull k) = true := shaped_tup (can_cons (canS (by decide +kernel)) (can_cons (canS h) (can_cons rfl (can_cons rfl can_nil)))) (by show (1 : Nat) ≤ 64; decide)
theorem shDone : SeqAt.shaped dDone = true := shaped_tup (can_cons (canS (by decide +kernel)) (can_cons rfl can_nil)) (by show (1 : Nat) ≤ 64; decide)
theorem evd_done {σ : L2.St} {H : Hp} : EvD (tTup (tCons (tC (.str (Str.ofString "done"))) (tCons (tC .non) tNil))) σ H dDone :=
  evd_tup (eda_cons (evd_cS rfl) (eda_cons (evd_of ev_c .non) eda_nil)) (by show 2 ≤ 100000; decide)
theorem evd_full {σ : L2.St} {H : Hp} {k : List Nat} {te : TE} (h : Ev te σ H (.str (S k))) : EvD (tTup (tCons (tC (.str (Str.ofString "full"))) (tCons te (tCons (tC (.bl true)) (tCons (tC (.bl false)) tNil))))) σ H (dFull k) :=
  evd_tup (eda_cons (evd_cS rfl) (eda_cons (evd_str h) (eda_cons (evd_bl ev_c) (eda_cons (evd_bl ev_c) eda_nil)))) (by show 4 ≤ 100000; decide)
theorem ne_D {v : V} {DD : PyData} {te : TE} {σ : L2.St} {H : Hp} {Q : Bool → Hp → Prop} (h1 : Dt H v DD) (h2 : EvD te σ H DD) (hs : SeqAt.shaped DD = true) (k : ∀ H1, Ex H H1 → Q false H1) :
    te σ H fun y H2 => rNeD K v y H2 fun z H3 => ∃ b, z = .bl b ∧ Q b H3 :=
  h2 H (Ex.refl _) _ fun y H2 e2 hy => ⟨DD, DD, (h1.mono e2).dp, hy.dp, hs, hs, false, by rw [eqv_self hs]; rfl, k H2 e2⟩
/-- a build writes where no person's entry is -/
theorem bld {C : Addr} {G : Gx K mg} {H0 H : Hp} {p d dl : Addr} {es : List (List Nat × Ent)} {m : Nat} {k : List Nat} {σ : L2.St} {D : Ends} {t1 : TE} (w9 : W9 C H0 H p d dl es m) (ps : Ps es m) (hl : es.length ≤ 3000) (hσ : σ[1]? = some (some (.ref p))) (hk : Ev t1 σ H (.str (S k))) (n : Nm k) (hn : ∀ j, j < m → k ≠ pN j)
    (q : ∀ H', W9 C H0 H' p d dl (put es k bE) m → Ps (put es k bE) m → D.nx σ H') : tDrop (Kn.tMethX C "write" (sp_Tree_write C G) (WE fun _ _ _ _ => False) (tVar 1) (tCons t1 (tCons (tC (.str "b")) (tCons (tC (.str "build")) tNil)))) D σ H := by
  obtain ⟨⟨dx, hp⟩, _⟩ := id w9.tr
  refine ⟨_, hσ, p, dx, _, rfl, hp, flds_no d (by decide +kernel), ?_⟩
  refine ea_cons hk (ea_cons (ev_cS (l := [98]) rfl) (ea_cons (ev_cS (l := eBuild) rfl) ea_nil)) H (Ex.refl _) _ fun H1 e1 => ?_
  have w1 := w9.mono e1
  refine ⟨p, d, es, k, [98], eBuild, rfl, w1.tr, by omega, ⟨n.l, by decide⟩, fun z => ?_, fun _ z => ?_, fun _ _ z => ?_, fun _ _ _ H2 T2 k2 => ?_⟩
  · rw [n.p] at z
    cases z
  · rw [show contOk [98] = true by decide +kernel] at z
    cases z
  · rw [decide_eq_false (show ¬ eBuild = ePerson by decide +kernel)] at z
    cases z
  · exact q H2 (w1.deed T2 k2) (ps.build n.o hn)
end

section
variable {P : Program} {w : World} {K : PySem.W.Frag} {mg : Str → Option Value} {base : Heap}
theorem given_filter (ys : List Str) (p : Str → Bool) (d : Str) : given ys.length (fun i => p (ys.getD i d)) (fun i => V.str (ys.getD i d)) = (ys.filter p).map V.str := by
  have e : (List.range ys.length).map (fun i => ys.getD i d) = ys := by
    refine List.ext_getElem (by simp) fun i h1 h2 => ?_
    rw [List.getElem_map, List.getElem_range, List.getD_eq_getElem?_getD, List.getElem?_eq_getElem h2]
    rfl
  unfold given
  conv => rhs; rw [← e, List.filter_map, List.map_map]
  rfl
theorem writer_pers {es : List (List Nat × Ent)} {k : List Nat} (h : ¬ ∃ e, look es k = some e ∧ isPers e = true) : writerV (look es k) ≠ .str (S ePerson) := by
  cases hl : look es k with
  | none => exact fun z => nomatch z
  | some e =>
    cases e with
    | link t => exact fun z => nomatch z
    | file t b =>
      intro z
      have e2 : b = ePerson := S_inj (V.str.inj z)
      exact h ⟨_, hl, by show decide (b = ePerson) = true; exact decide_eq_true e2⟩
theorem look_nd : ∀ {es : List (List Nat × Ent)}, (es.map (·.1)).Nodup → ∀ x ∈ es, look es x.1 = some x.2
  | y :: r, nd, x, hx => by
    rw [List.map_cons, List.nodup_cons] at nd
    rw [look_cons]
    rcases List.mem_cons.mp hx with z | z
    · rw [z, if_pos rfl]
    · rw [if_neg (fun e => nd.1 (List.mem_map.mpr ⟨x, z, e.symm⟩))]
      exact look_nd nd.2 x z
theorem scal_writer {o : Option Ent} : scal (writerV o) (.str (S ePerson)) = true := by
  cases o with
  | none => rfl
  | some e => cases e <;> rfl
def cell2 (ns : List Int) (i : Nat) : Nat := (cellOf ns i).natAbs
def sp_law (K : PySem.W.Frag) : Sp := sp2 (fun (a : Addr) (_ : List Int) => [.ref a]) (fun a ns H => SqL K H a (ns.map V.int) ∧ ns.length ≤ 63) (fun _ _ => .bl true)
theorem ok_law {f C : Addr} {fd : FuncData} (F : Fun K "law" "law" s_law f fd) (T : Tx mg) (G : Gx K mg) (TC : Tc K C) (C__law_cell : Kn.Cl P w K mg base 1 "_law_cell" (sp__law_cell K)) (C__law_personal : Kn.Cl P w K mg base 5 "_law_personal" (sp__law_personal C G)) (M_Tree : Kn.Mkr P w K mg base 1 "Tree" C (sp_Tree___init__ C K)) (M_Tree_write : Kn.MtX P w K mg base 4 C "write" (sp_Tree_write C G)) (M_Tree_read : Kn.Mt P w K mg base 2 C "read" (sp_Tree_read C K)) (M_Tree_writer : Kn.Mt P w K mg base 2 C "writer" (sp_Tree_writer C K)) (M_Tree_paths : Kn.Mt P w K mg base 1 C "paths" (sp_Tree_paths C K)) (M_Tree_kind : Kn.Mt P w K mg base 1 C "kind" (sp_Tree_kind C K)) (M_Tree_erase : Kn.MtX P w K mg base 3 C "erase" (sp_Tree_erase C G)) : FnOk P w K mg base CX0 6 f fd ["script"] (sp_law K) := by
  refine F.ok sc_law (fun vs H Q E h => ?_) (fun cdv A outer s H vs Q E hr h => ?_)
  · obtain ⟨a, ns, rfl, _⟩ := h
    rfl
  · obtain ⟨a, ns, rfl, ⟨hS, hl⟩, q⟩ := h
    refine ⟨_, (pss_cons (ps_set (i := 1) sc_law.nd rfl (Or.inr rfl) (Kn.pe_mkr0 M_Tree hr (by decide) (by rfl)))
      (pss_cons (ps_set (i := 2) sc_law.nd rfl (Or.inl rfl) (pe_callB Kn.cr_abs (by rfl) T.b_abs (by decide +kernel) (pa_cons (Kn.pe_cl C__law_cell hr (by decide) (by rfl) (pa_cons (pv 0) (pa_cons pe_int pa_nil))) pa_nil)))
      (pss_cons (ps_set (i := 3) sc_law.nd rfl (Or.inl rfl) (pe_op op_add pe_int (pe_op op_mod (pv 2) pe_int)))
      (pss_cons (ps_set (i := 4) sc_law.nd rfl (Or.inl rfl) pe_dnewK)
      (pss_cons (ps_for PassesOwn.never rfl (pi_range1 rfl T.b_range (pa_cons (pv 3) pa_nil)) (pg_name (i := 5) sc_law.nd rfl (Or.inl rfl)) (pss_cons (ps_set (i := 6) sc_law.nd rfl (Or.inl rfl) (pe_op op_fdiv (pe_callB Kn.cr_abs (by rfl) T.b_abs (by decide +kernel) (pa_cons (Kn.pe_cl C__law_cell hr (by decide) (by rfl) (pa_cons (pv 0) (pa_cons (pe_op op_add pe_int (pe_op op_mod (pv 5) pe_int)) pa_nil))) pa_nil)) (pe_op op_add pe_int (pe_op op_fdiv (pv 5) pe_int))))
      (pss_cons (ps_set (i := 7) sc_law.nd rfl (Or.inl rfl) (pe_op Kn.op_addS pe_str (pe_callTy Kn.cr_strInt (by rfl) T.b_str (by decide +kernel) (pa_cons (pv 5) pa_nil))))
      (pss_cons (ps_if (pt_cmpR op_eq (pe_op op_mod (pv 6) pe_int) pe_int (nomark _)) (pss_one (ps_expr (Kn.pe_mtX M_Tree_write hr (by decide) takes0 (pv 1) (pa_cons (pe_op Kn.op_addS pe_str (pe_callTy Kn.cr_strInt (by rfl) T.b_str (by decide +kernel) (pa_cons (pe_op op_mod (pe_op op_fdiv (pv 6) pe_int) pe_int) pa_nil))) (pa_cons pe_str (pa_cons pe_str pa_nil)))))) pss_nil)
      (pss_cons (ps_if (pt_cmpR op_eq (pe_op op_mod (pe_op op_fdiv (pv 6) pe_int) pe_int) pe_int (nomark _)) (pss_one (ps_expr (Kn.pe_mtX M_Tree_write hr (by decide) takes0 (pv 1) (pa_cons (pv 7) (pa_cons pe_str (pa_cons pe_str pa_nil)))))) pss_nil)
      (pss_cons (ps_set (i := 8) sc_law.nd rfl (Or.inl rfl) (pe_cmpR op_eq (pe_op op_mod (pe_op op_fdiv (pv 6) pe_int) pe_int) pe_int (nomark _)))
      (pss_cons (ps_set (i := 9) sc_law.nd rfl (Or.inl rfl) (Kn.pe_cl C__law_personal hr (by decide) (by rfl) (pa_cons (pv 1) (pa_cons (pv 7) (pa_cons (pv 8) pa_nil)))))
      (pss_cons (ps_if (pt_cmpR op_lt (pe_callB Kn.cr_lenD (by rfl) T.b_len PySem.boot_len (pa_cons (pv 4) pa_nil)) pe_int (nomark _)) (pss_cons (ps_dput (hu_of hr) (pv 4) (pv 7) (pv 8) rfl)
      (pss_one (ps_if (pt_cmpR (op_neD hr.units) (pv 9) (pe_tup (pa_cons pe_str (pa_cons pe_non pa_nil))) (nomark _)) (pss_one (ps_ret pe_bl)) pss_nil))) (pss_one (ps_if (pt_cmpR (op_neD hr.units) (pv 9) (pe_tup (pa_cons pe_str (pa_cons (pv 7) (pa_cons pe_bl (pa_cons pe_bl pa_nil))))) (nomark _)) (pss_one (ps_ret pe_bl)) pss_nil)))
      (pss_one (ps_if (PW.pt (pw_and (pt_cmpR op_eq (pe_callB Kn.cr_lenD (by rfl) T.b_len PySem.boot_len (pa_cons (pv 4) pa_nil)) pe_int (nomark _)) (pw_and (pt_cmp (pc_dnotin (hu_of hr) (pv 7) (pv 4))) (pw_and1 (pt_cmpR op_eq (Kn.pe_mt M_Tree_writer hr (by decide) (pv 1) (pa_cons (pv 7) pa_nil)) pe_str (nomark _)))))) (pss_one (ps_ret pe_bl)) pss_nil))))))))))
      (pss_cons (ps_if (pt_cmpR (op_neD hr.units) (Kn.pe_cl C__law_personal hr (by decide) (by rfl) (pa_cons (pv 1) (pa_cons pe_str (pa_cons (pe_cmpR op_eq (pe_op op_mod (pe_op op_fdiv (pv 2) pe_int) pe_int) pe_int (nomark _)) pa_nil)))) (pe_tup (pa_cons pe_str (pa_cons pe_non pa_nil))) (nomark _)) (pss_one (ps_ret pe_bl)) pss_nil)
      (pss_cons (ps_expr (Kn.pe_mtX M_Tree_write hr (by decide) takes0 (pv 1) (pa_cons pe_str (pa_cons pe_str (pa_cons pe_str pa_nil)))))
      (pss_cons (ps_if (pt_cmpR op_ne (Kn.pe_mt M_Tree_read hr (by decide) (pv 1) (pa_cons pe_str pa_nil)) pe_str (nomark _)) (pss_one (ps_ret pe_bl)) pss_nil)
      (pss_cons (ps_setLc (i := 10) (own := [("path", 7)]) rfl sc_law.nd rfl rfl (sw_true rfl rfl rfl (by decide +kernel)) (pi_list (Kn.pe_mt0 M_Tree_paths hr (by decide) (pv 1))) (blkOk_by (own := [("path", 7)]) (N := N_law) (sc := defScope s_law) (by decide +kernel)) (fun _ _ _ _ _ => pg_name (i := 7) sc_law.nd rfl (Or.inl rfl)) (fun _ _ _ _ _ => (pts_one (PW.pt (pw_or (pt_cmpR op_eq (Kn.pe_mt M_Tree_writer hr (by decide) (pv 1) (pa_cons (pv 7) pa_nil)) pe_str (nomark _)) (pw_or1 (pt_cmpR op_eq (Kn.pe_mt M_Tree_kind hr (by decide) (pv 1) (pa_cons (pv 7) pa_nil)) pe_str (nomark _))))))) (fun _ _ _ _ _ => (pv 7)))
      (pss_cons (ps_if (pt_cmpR (op_neD hr.units) (pv 10) (pe_callB (Kn.cr_sortDA rfl) (by rfl) T.b_sorted (by decide +kernel) (pa_cons (pv 4) pa_nil)) (nomark _)) (pss_one (ps_ret pe_bl)) pss_nil)
      (pss_cons (ps_if (pt_cmpR op_eq (pe_callB Kn.cr_lenD (by rfl) T.b_len PySem.boot_len (pa_cons (pv 4) pa_nil)) pe_int (nomark _)) (pss_cons (ps_if (PW.pt (pw_or (pt_cmpR op_ne (pe_ix ix_tup (Kn.pe_cl C__law_personal hr (by decide) (by rfl) (pa_cons (pv 1) (pa_cons pe_str (pa_cons (pe_cmpR op_eq (pe_op op_mod (pv 2) pe_int) pe_int (nomark _)) pa_nil)))) pe_int (fun _ _ => rfl)) pe_str (nomark _)) (pw_or1 (pt_cmpR op_ne (Kn.pe_mt M_Tree_writer hr (by decide) (pv 1) (pa_cons pe_str pa_nil)) pe_str (nomark _))))) (pss_one (ps_ret pe_bl)) pss_nil)
      (pss_cons (ps_expr (Kn.pe_mtX M_Tree_erase hr (by decide) takes0 (pv 1) (pa_cons pe_str pa_nil)))
      (pss_cons (ps_if (PW.pt (pw_or (pt_cmpR (op_neD hr.units) (Kn.pe_cl C__law_personal hr (by decide) (by rfl) (pa_cons (pv 1) (pa_cons pe_str (pa_cons pe_bl pa_nil)))) (pe_tup (pa_cons pe_str (pa_cons pe_non pa_nil))) (nomark _)) (pw_or1 (pt_cmpR op_ne (Kn.pe_mt M_Tree_writer hr (by decide) (pv 1) (pa_cons pe_str pa_nil)) pe_str (nomark _))))) (pss_one (ps_ret pe_bl)) pss_nil)
      (pss_one (ps_ret (pe_and (pe_cmpR op_eq (pe_ix ix_tup (Kn.pe_cl C__law_personal hr (by decide) (by rfl) (pa_cons (pv 1) (pa_cons pe_str (pa_cons pe_bl pa_nil)))) pe_int (fun _ _ => rfl)) pe_str (nomark _)) (pe_one (pe_cmpR op_eq (Kn.pe_mt M_Tree_kind hr (by decide) (pv 1) (pa_cons pe_str pa_nil)) pe_str (nomark _))))))))) pss_nil)
      (pss_one (ps_ret pe_bl))))))))))))), ?_⟩
    intro p dx np ndx nex
    refine ⟨p, dx, rfl, upd_same, fun d H1 nd TR keep => ⟨rfl, ?_⟩⟩
    have nd1 : H d = none := upd_none (upd_none nd)
    have e1 : Ex H H1 := fun b o hb => keep b o (by rw [upd_ne (ne_of_none hb np), upd_ne (ne_of_none hb ndx)]; exact hb) (ne_of_none hb np)
    refine q_asg (v := .int ((cell2 ns 0 : Nat) : Int)) (ev_cellA (ea_cons (ev_var rfl) (ea_cons ev_c ea_nil)) (ex_l e1 hS)) fun H2 e2 => ?_
    generalize cell2 ns 0 = f0
    refine q_asg (v := .int ((50 + f0 % 13 : Nat) : Int)) (ev_is (ev_op ev_c (ev_mod (m := 13) (ev_var rfl) rfl (by decide)) rv_I0) (by rw [Int.natCast_add]; rfl)) fun H3 e3 => ?_
    refine q_dnew fun dl ndl => ?_
    have e123 := (e1.trans e2).trans e3
    have TR3 := TR.mono (e2.trans e3)
    obtain ⟨_, kv3, hd3, _⟩ := id TR3
    have w0 : W9 C H (L2.upd H3 dl (.dK [])) p d dl [] 0 := ⟨e123.trans (Ex.new ndl), TR3.mono (Ex.new ndl), ⟨[], upd_same, rfl⟩, nd1, fresh_back e123 ndl, ne_of_none hd3 ndl⟩
    have p0 : Ps [] 0 := ⟨List.nodup_nil, (fun x hx => nomatch hx), fun k => ⟨(fun ⟨_, z, _⟩ => nomatch z), fun ⟨j, z, _⟩ => absurd z (by omega)⟩⟩
    have hc62 : 50 + f0 % 13 ≤ 62 := by omega
    have hc50 : 50 ≤ 50 + f0 % 13 := by omega
    generalize hcnt : 50 + f0 % 13 = cnt at hc62 hc50
    refine q_forR1 (n := (cnt : Int)) (ea_cons (ev_var rfl) ea_nil) ⟨by omega, by omega⟩ (fun i σ' H' => ∃ (es : List (List Nat × Ent)) (y5 y6 y7 y8 y9 y10 : Option V), σ' = [some (.ref a), some (.ref p), some (.int (f0 : Int)), some (.int (cnt : Int)), some (.ref dl), y5, y6, y7, y8, y9, y10] ∧ W9 C H H' p d dl es (min i 60) ∧ Ps es (min i 60) ∧ es.length ≤ 3 * i) (fun H4 e4 => ⟨[], _, _, _, _, _, _, rfl, w0.mono e4, p0, by decide⟩) ?_ ?_
    · clear w0 p0 TR3 hd3
      rintro i σ' H4 hi ⟨es, y5, y6, y7, y8, y9, y10, rfl, w4, ps, hn⟩
      have hi62 : i < 62 := by omega
      refine q_asg (v := .int ((cell2 ns (1 + i % 62) / (1 + i / 62) : Nat) : Int)) (ev_is (ev_op (ev_cellA (c := 1 + i % 62) (ea_cons (ev_var rfl) (ea_cons (ev_is (ev_op ev_c (ev_mod (m := 62) (ev_var rfl) rfl (by decide)) rv_I0) (by rw [Int.natCast_add]; rfl)) ea_nil)) (ex_l w4.ex hS)) (ev_op ev_c (ev_div (m := 62) (ev_var rfl) rfl (by decide)) rv_I0) (rv_fdiv ⟨by omega, by omega⟩)) (by rw [Int.natCast_ediv, Int.natCast_ediv, Int.natCast_add, Int.natCast_ediv]; rfl)) fun H5 e5 => ?_
      generalize cell2 ns (1 + i % 62) / (1 + i / 62) = c
      refine q_asg (v := .str (S (pN i))) (ev_nm (c := 112) rfl (by omega) (ev_var rfl)) fun H6 e6 => ?_
      have w6 := w4.mono (e5.trans e6)
      clear w4 e5 e6
      -- a build's file elsewhere
      refine q_ifM (b := decide (c % 2 = 1)) (fun σ' H' => ∃ es', σ' = [some (.ref a), some (.ref p), some (.int (f0 : Int)), some (.int (cnt : Int)), some (.ref dl), some (.int (i : Int)), some (.int (c : Int)), some (.str (S (pN i))), y8, y9, y10] ∧ W9 C H H' p d dl es' (min i 60) ∧ Ps es' (min i 60) ∧ es'.length ≤ 3 * i + 1) (et_eqN (m := 1) (ev_mod (m := 2) (ev_var rfl) rfl (by decide)) rfl) (fun _ H7 e7 N hN => ?_) (fun _ H7 e7 N hN => s_next (hN _ _ ⟨es, rfl, w6.mono e7, ps, by omega⟩)) ?_
      · refine bld (w6.mono e7) ps (by omega) rfl (ev_nm (c := 98) (n := c / 2 % 30) rfl (by omega) (ev_mod (m := 30) (ev_div (m := 2) (ev_var rfl) rfl (by decide)) rfl (by decide))) (nm_b (by omega)) (fun j _ z => pN_bN z.symm) fun H8 w8 p8 => hN _ _ ⟨_, rfl, w8, p8, ?_⟩
        have := put_len es ([98] ++ TL.numL (c / 2 % 30)) bE
        omega
      clear w6 ps hn
      rintro σ' H6 ⟨es1, rfl, w6, ps, hn⟩
      have hnew : ∀ j, j < min i 60 → pN i ≠ pN j := fun j hj z => by
        have := pN_inj (by omega) (by omega) z
        omega
      refine q_ifM (b := decide (c / 2 % 3 = 1)) (fun σ' H' => ∃ es', σ' = [some (.ref a), some (.ref p), some (.int (f0 : Int)), some (.int (cnt : Int)), some (.ref dl), some (.int (i : Int)), some (.int (c : Int)), some (.str (S (pN i))), y8, y9, y10] ∧ W9 C H H' p d dl es' (min i 60) ∧ Ps es' (min i 60) ∧ es'.length ≤ 3 * i + 2) (et_eqN (m := 1) (ev_mod (m := 3) (ev_div (m := 2) (ev_var rfl) rfl (by decide)) rfl (by decide)) rfl) (fun _ H7 e7 N hN => ?_) (fun _ H7 e7 N hN => s_next (hN _ _ ⟨es1, rfl, w6.mono e7, ps, by omega⟩)) ?_
      · refine bld (w6.mono e7) ps (by omega) rfl (ev_var rfl) (nm_p (by omega)) hnew fun H8 w8 p8 => hN _ _ ⟨_, rfl, w8, p8, ?_⟩
        have := put_len es1 (pN i) bE
        omega
      clear w6 ps hn es1 es
      rintro σ' H6 ⟨es, rfl, w6, ps, hn⟩
      refine q_asg (v := .bl (decide (c / 6 % 2 = 1))) (ev_eqN (m := 1) (ev_mod (m := 2) (ev_div (m := 6) (ev_var rfl) rfl (by decide)) rfl (by decide)) rfl) fun H7 e7 => ?_
      generalize decide (c / 6 % 2 = 1) = lnk
      have w7 := w6.mono e7
      have hroom := ps.room (by omega) (pN i)
      refine ⟨_, rfl, _, rfl, _, rfl, p, d, es, pN i, lnk, rfl, w7.tr, by omega, (nm_p (by omega)).l, (nm_p (by omega)).p, fun hno v H8 e8 hv => ?_, fun hyes v H8 hv T8 k8 => ?_⟩
      · -- refused
        rw [hroom, Bool.or_eq_false_iff, decide_eq_false_iff_not, decide_eq_false_iff_not] at hno
        have hi60 : 60 ≤ i := by omega
        have hm : min i 60 = 60 := by omega
        have hm2 : min (i + 1) 60 = 60 := by omega
        rw [hm] at w7 ps hno
        have w8 := w7.mono e8
        obtain ⟨kvs, hd8, hk8⟩ := id w8.kn
        refine q_if (b := decide (60 < 60)) (et_ltN (m := 60) (ev_is (ev_lenD (ev_var rfl) hd8) (by rw [W9.klen hk8])) rfl) (fun hb => absurd hb (by decide)) fun _ H9 e9 => ?_
        refine s_when (b := false) (et_is (et_test (ev_neD (evd_of (ev_var rfl) (hv.mono e9)) (evd_full (k := pN i) (ev_var rfl)) (shFull (nm_p (by omega)).o) (shFull (nm_p (by omega)).o))) (by rw [eqv_self (shFull (nm_p (by omega)).o)]; rfl)) (fun z => nomatch z) fun _ H10 e10 => ?_
        have w10 := (w8.mono e9).mono e10
        obtain ⟨kvs', hd10, hk10⟩ := id w10.kn
        obtain ⟨⟨dx10, hp10⟩, _⟩ := id w10.tr
        have hnp : ¬ ∃ e, look es (pN i) = some e ∧ isPers e = true := by
          rw [ps.pe]
          exact hno.1
        refine s_when (b := true && ((!decide (i < 60)) && decide (writerV (look es (pN i)) = .str (S ePerson)))) (et_and (et_is (et_eqN (m := 60) (ev_is (ev_lenD (ev_var rfl) hd10) (by rw [W9.klen hk10])) rfl) (by decide)) fun _ => et_and (et_is (et_dnotin (ev_var rfl) (ev_var rfl) hd10) (by rw [key_in hk10 (by decide) (by omega)])) fun _ => et_test (ev_op (ev_meth (ev_var rfl) hp10 (flds_no d (by decide +kernel)) (ea_cons (ev_var rfl) ea_nil) (writer_sp w10.tr)) (ev_cS (l := ePerson) rfl) (rv_eq scal_writer))) (fun hb => ?_) fun _ H11 e11 => ⟨es, _, _, _, _, _, _, rfl, by rw [hm2]; exact w10.mono e11, by rw [hm2]; exact ps, by omega⟩
        rw [decide_eq_false (writer_pers hnp)] at hb
        simp at hb
      · -- done
        have w8 := w7.deed T8 k8
        rw [hroom, Bool.or_eq_true, decide_eq_true_eq, decide_eq_true_eq] at hyes
        have hi60 : i < 60 := by
          rcases hyes with ⟨j, h1, h2⟩ | h
          · exact absurd h2 (hnew j h1)
          · omega
        have hm : min i 60 = i := by omega
        have hm2 : min (i + 1) 60 = i + 1 := by omega
        rw [hm] at w8 ps
        obtain ⟨kvs, hd8, hk8⟩ := id w8.kn
        have ps' := ps.more (b := lnk) (by omega)
        have hlen' := put_len es (pN i) (persE lnk)
        refine q_if (b := decide (i < 60)) (et_ltN (m := 60) (ev_is (ev_lenD (ev_var rfl) hd8) (by rw [W9.klen hk8])) rfl) (fun _ H9 e9 => ?_) fun hb => ?_
        · have w9' := w8.mono e9
          refine s_dput (D := { nx := _, rt := Q }) (k := pN i) (v := .bl lnk) (ev_var rfl) (fun H10 e10 => ev_var rfl) (fun H10 e10 => ev_var rfl) (e9 _ _ hd8) (by have := W9.klen hk8; omega) fun H10 e10 => ?_
          have w10 := (w9'.mono e10).known (v := .bl lnk) (e10 _ _ (e9 _ _ hd8)) hk8 (by omega)
          have hv10 : Dt (L2.upd H10 dl (.dK (putK kvs (Sum.inr (S (pN i))) (.bl lnk)))) _ dDone := ((hv.mono e9).mono e10).upd (e10 _ _ (e9 _ _ hd8)) (fun _ z => nomatch z) rfl
          refine s_when (b := false) (et_is (et_test (ev_neD (evd_of (ev_var rfl) hv10) evd_done shDone shDone)) (by rw [eqv_self shDone]; rfl)) (fun z => nomatch z) fun _ H11 e11 => ?_
          have w11 := w10.mono e11
          obtain ⟨kvs', hd11, hk11⟩ := id w11.kn
          obtain ⟨⟨dx11, hp11⟩, _⟩ := id w11.tr
          refine s_when (b := decide (i + 1 = 60) && ((!decide (i < i + 1)) && decide (writerV (look (put es (pN i) (persE lnk)) (pN i)) = .str (S ePerson)))) (et_and (et_eqN (m := 60) (ev_is (ev_lenD (ev_var rfl) hd11) (by rw [W9.klen hk11])) rfl) fun _ => et_and (et_is (et_dnotin (ev_var rfl) (ev_var rfl) hd11) (by rw [key_in hk11 (by omega) (by omega)])) fun _ => et_test (ev_op (ev_meth (ev_var rfl) hp11 (flds_no d (by decide +kernel)) (ea_cons (ev_var rfl) ea_nil) (writer_sp w11.tr)) (ev_cS (l := ePerson) rfl) (rv_eq scal_writer))) (fun hb => ?_) fun _ H12 e12 => ⟨_, _, _, _, _, _, _, rfl, by rw [hm2]; exact w11.mono e12, by rw [hm2]; exact ps', by omega⟩
          rw [decide_eq_true (show i < i + 1 by omega)] at hb
          simp at hb
        · rw [decide_eq_true hi60] at hb
          cases hb
    · clear w0 p0 TR3 hd3
      rintro σ' H4 ⟨es, y5, y6, y7, y8, y9, y10, rfl, w4, ps, hn⟩
      rw [Int.toNat_natCast] at w4 ps hn
      have hm50 : 50 ≤ min cnt 60 := by omega
      have hm60 : min cnt 60 ≤ 60 := by omega
      generalize min cnt 60 = m at w4 ps hm50 hm60
      have hn2 : es.length ≤ 200 := by omega
      clear hn hcnt hc62 hc50
      -- p1 once more
      refine ⟨_, rfl, ?_⟩
      show tOp _ _ _ _ _ _
      refine ev_eqN (m := 1) (ev_mod (m := 2) (ev_div (m := 13) (ev_var rfl) rfl (by decide)) rfl (by decide)) rfl H4 (Ex.refl _) _ fun H5 e5 => ?_
      generalize decide (f0 / 13 % 2 = 1) = lnk
      have w5 := w4.mono e5
      refine ⟨p, d, es, pN 1, lnk, (by rw [show S (pN 1) = Str.ofString "p1" from (S1 _ (by decide +kernel)).symm]; rfl), w5.tr, by omega, (nm_p (by omega)).l, (nm_p (by omega)).p, fun hno => ?_, fun _ v H6 hv T6 k6 => ?_⟩
      · rw [ps.room (by omega), Bool.or_eq_false_iff, decide_eq_false_iff_not] at hno
        exact absurd ⟨1, by omega, rfl⟩ hno.1
      refine ne_D hv evd_done shDone fun H7 e7 => ?_
      have w7 := (w5.deed T6 k6).mono e7
      have ps7 := ps.again (b := lnk) (j := 1) (by omega) (by omega)
      have hl7 := put_len es (pN 1) (persE lnk)
      generalize put es (pN 1) (persE lnk) = es7 at w7 ps7 hl7
      clear T6 k6 w5 w4 ps
      -- a build's file
      refine bld w7 ps7 (by omega) rfl (ev_cS (l := bN 99) (by decide +kernel)) (nm_b (by omega)) (fun j _ z => pN_bN z.symm) fun H8 w8 ps8 => ?_
      obtain ⟨⟨dx8, hp8⟩, _⟩ := id w8.tr
      have lk8 : look (put es7 (bN 99) bE) (bN 99) = some bE := by rw [look_put, if_pos rfl]
      have hl8 := put_len es7 (bN 99) bE
      generalize put es7 (bN 99) bE = es8 at w8 ps8 lk8 hl8
      refine q_when (b := false) (et_is (et_test (ev_op (ev_is (ev_meth (ev_var rfl) hp8 (flds_no d (by decide +kernel)) (ea_cons (ev_cS (l := bN 99) (by decide +kernel)) ea_nil) (read_sp w8.tr)) (by rw [lk8]; rfl)) (ev_cS (l := [98]) rfl) rv_neS)) (by simp)) (fun z => nomatch z) fun _ H9 e9 => ?_
      have w9 := w8.mono e9
      clear w7 ps7
      -- the persons' paths
      obtain ⟨⟨dx9, hp9⟩, _⟩ := id w9.tr
      refine ⟨_, rfl, p, dx9, _, rfl, hp9, flds_no d (by decide +kernel), p, d, es8, rfl, w9.tr, by omega, fun ys hperm hsort pl H10 npl e10 hpl => ?_⟩
      have w10 := w9.mono e10
      have hyl : ys.length ≤ 30000 := by
        rw [hperm.length_eq]
        unfold keysE
        rw [List.length_map]
        omega
      obtain ⟨⟨dx10, hp10⟩, _⟩ := id w10.tr
      show tAsg (tLc (iList K (tC (.ref pl))) (gName 7) _ _ _) (gName 10) _ _ _
      refine s_asgL (D := { nx := _, rt := Q }) (el_lcL (K := K) (a := pl) (xs := ys.map V.str) (fun i => (fun y : Str => ((look es8 y.cps.toList).map isPers).getD false) (ys.getD i Str.empty)) (fun i => V.str (ys.getD i Str.empty)) ev_c (sq_of hpl) (by rw [List.length_map]; omega) (fun _ => rfl) (fun i x H11 e11 hx => ?_) (fun i x H11 e11 hx _ => ?_)) fun pr H11 npr e11 hpr => ?_
      · obtain ⟨y, hy, rfl⟩ : ∃ y, ys[i]? = some y ∧ x = V.str y := by
          rw [List.getElem?_map] at hx
          cases h : ys[i]? with
          | none => rw [h] at hx; cases hx
          | some y => rw [h] at hx; exact ⟨y, rfl, (Option.some.inj hx).symm⟩
        have eg : ys.getD i Str.empty = y := by rw [List.getD_eq_getElem?_getD, hy]; rfl
        rw [eg]
        have ey : y = S y.cps.toList := TL.ext_tl rfl
        generalize y.cps.toList = k at ey
        subst ey
        have T11 := w10.tr.mono e11
        have mk := fun (z : V) (m : Str) (sp : Sp) (h1 : (flds d).lookup m = none) (h2 : SpV sp [.ref p, .str (S k)] H11 z) => Kn.ev_meth (C := C) (E := E0) (ta := tVar 1) (t := tCons (tVar 7) tNil) (σ := (wipe [some (V.ref a), some (V.ref p), some (V.int (f0 : Int)), some (V.int (cnt : Int)), some (V.ref dl), y5, y6, y7, y8, y9, y10] [7]).set 7 (some (V.str (S k)))) (z := z) (m := m) (sp := sp) (ev_var rfl) (e11 _ _ hp10) h1 (ea_cons (ev_var rfl) ea_nil) h2
        have eW : ((look es8 k).map isPers).getD false = (decide (writerV (look es8 k) = .str (S ePerson)) || decide (kindL (look es8 k) = eLink)) := by
          cases look es8 k with
          | none =>
            rw [decide_eq_false (show ¬ writerV none = .str (S ePerson) from fun z => nomatch z), decide_eq_false (show ¬ kindL none = eLink from none_ne)]
            rfl
          | some e =>
            cases e with
            | link t =>
              rw [decide_eq_true (show kindL (some (.link t)) = eLink from rfl), Bool.or_true]
              rfl
            | file t b =>
              rw [decide_eq_false (show ¬ kindL (some (.file t b)) = eLink from file_ne), Bool.or_false]
              show decide (b = ePerson) = decide (V.str (S b) = .str (S ePerson))
              rw [dec_S]
        rw [show ((fun y : Str => ((look es8 y.cps.toList).map isPers).getD false) (S k)) = ((look es8 k).map isPers).getD false from rfl, eW]
        exact et_or (et_test (ev_op (mk _ "writer" _ (flds_no d (by decide +kernel)) (writer_sp (K := K) T11)) (ev_cS (l := ePerson) rfl) (rv_eq scal_writer))) fun _ => et_test (ev_op (mk _ "kind" _ (flds_no d (by decide +kernel)) (kind_sp (K := K) T11)) (ev_cS (l := eLink) rfl) rv_eqS)
      · obtain ⟨y, hy, rfl⟩ : ∃ y, ys[i]? = some y ∧ x = V.str y := by
          rw [List.getElem?_map] at hx
          cases h : ys[i]? with
          | none => rw [h] at hx; cases hx
          | some y => rw [h] at hx; exact ⟨y, rfl, (Option.some.inj hx).symm⟩
        have eg : ys.getD i Str.empty = y := by rw [List.getD_eq_getElem?_getD, hy]; rfl
        rw [eg]
        exact ev_var rfl
      rw [List.length_map] at hpr
      replace hpr := hpr.trans (congrArg (fun l => some (HO.lst l)) (given_filter ys (fun y : Str => ((look es8 y.cps.toList).map isPers).getD false) Str.empty))
      have w11 := w10.mono e11
      obtain ⟨kvs, hd11, hk11⟩ := id w11.kn
      have hzs : (ys.filter fun y : Str => ((look es8 y.cps.toList).map isPers).getD false).Perm (keysP m) := by
        have h1 := hperm.filter fun y : Str => ((look es8 y.cps.toList).map isPers).getD false
        refine h1.trans ?_
        have h2 : ((keysE es8).filter fun y : Str => ((look es8 y.cps.toList).map isPers).getD false) = ((es8.filter fun x => isPers x.2).map (·.1)).map S := by
          unfold keysE
          rw [List.filter_map, List.map_map]
          have h3 : (es8.filter ((fun y : Str => ((look es8 y.cps.toList).map isPers).getD false) ∘ fun x : List Nat × Ent => S x.1)) = es8.filter fun x => isPers x.2 := by
            refine List.filter_congr fun x hx => ?_
            show ((look es8 x.1).map isPers).getD false = isPers x.2
            have h4 : look es8 x.1 = some x.2 := by
              have := (mem_filt ps8.nd (k := x.1))
              exact look_nd ps8.nd x hx
            rw [h4]
            rfl
          rw [h3]
          rfl
        rw [h2]
        have h5 := (ps8.perm (by omega)).map S
        have e5 : List.map S (List.map pN (List.range m)) = keysP m := by
          unfold keysP
          rw [List.map_map]
          rfl
        rw [e5] at h5
        exact h5
      have hok : ∀ y ∈ (ys.filter fun y : Str => ((look es8 y.cps.toList).map isPers).getD false), okS y.cps.toList = true := fun y hy => by
        obtain ⟨x, hx, rfl⟩ := List.mem_map.mp (hperm.mem_iff.mp (List.mem_filter.mp hy).1)
        exact ps8.ok x hx
      have hpw := (sorted_pw hsort).filter fun y : Str => ((look es8 y.cps.toList).map isPers).getD false
      generalize (ys.filter fun y : Str => ((look es8 y.cps.toList).map isPers).getD false) = zs at hpr hzs hok hpw
      dsimp only
      refine q_when (b := false) (fun H12 e12 Q2 q2 => ⟨_, rfl, _, rfl, dl, kvs, keysP m, rfl, .inl (e12 _ _ hd11), hk11, ?_, fun ys2 p2 hperm2 hs2 hn2 => ?_⟩) (fun z => nomatch z) fun _ H12 e12 => ?_
      · unfold keysP
        rw [List.length_map, List.length_range]
        omega
      · have e : zs = ys2 := List.Perm.eq_of_pairwise (le := leS) (fun a b _ _ x y => TL.ext_tl (List.le_antisymm x y)) hpw (sorted_pw hs2) (hzs.trans hperm2.symm)
        subst e
        have hsh := shaped_strs hok
        have e6 := Ex.new (o := .lst (zs.map V.str)) hn2
        refine ⟨.list (zs.map .str), .list (zs.map .str), (Dt.lst (e6 _ _ (e12 _ _ hpr)) (dta_strs zs)).dp, (Dt.lst upd_same (dta_strs zs)).dp, hsh, hsh, false, ?_, q2 _ e6⟩
        rw [eqv_self hsh]
        rfl
      have w12 := w11.mono e12
      clear hpw hok hzs hk11 hd11 w11 w10 hp10 w9 w8 hp8 hp9
      obtain ⟨kvs, hd12, hk12⟩ := id w12.kn
      refine q_when (b := decide (m = 60)) (et_eqN (m := 60) (ev_is (ev_lenD (ev_var rfl) hd12) (by rw [W9.klen hk12])) rfl) (fun hb H13 e13 => ?_) fun _ H13 e13 => s_ret ev_c fun H14 e14 => q H14 ((w12.mono (e13.trans e14)).ex)
      have hm := of_decide_eq_true hb
      subst hm
      have w13 := w12.mono e13
      have pl8 : Pl es8 L60 := ps8.pl
      -- b99 is refused
      obtain ⟨⟨dx13, hp13⟩, _⟩ := id w13.tr
      have hno : hasRoom es8 (bN 99) = false := by
        rw [pl8.room l60.1, decide_eq_false l60.2.2, l60.2.1]
        rfl
      have callB : ∀ {σ : L2.St} {H1 : Hp} {ta : TA} {es' : List (List Nat × Ent)} {k : List Nat} {b : Bool}, EvA ta σ H1 [.ref p, .str (S k), .bl b] → Tr C H1 p d es' → es'.length ≤ 30000 → k.length ≤ 30000 → pathOk k = true → hasRoom es' k = false → EvD (tCall (sp__law_personal C G) [] E0 ta) σ H1 (dFull k) := fun {σ H1 ta es' k b} hA T1 l1 l2 l3 h0 => evd_call hA fun H2 e2 Q2 q2 E2 => ⟨p, d, es', k, b, rfl, T1.mono e2, l1, l2, l3, fun _ v H3 e3 hv => q2 v H3 e3 hv, fun z => by rw [h0] at z; cases z⟩
      have ixF : ∀ {σ : L2.St} {H1 : Hp} {te : TE} {k : List Nat}, EvD te σ H1 (dFull k) → Ev (tOp (rIxT K) te (tC (.int 0))) σ H1 (.str (S wFull)) := fun {σ H1 te k} h H2 e2 Q2 q2 => h H2 e2 _ fun v H3 e3 hv => by
        obtain ⟨q3, xs, rfl, hq3, hx⟩ := Dt.tup_inv hv
        cases hx with
        | cons h1 _ =>
          have := h1.str_inv
          subst this
          exact ⟨q3, _, 0, _, rfl, rfl, st_of hq3, atI_nat (j := 0) rfl, q2 H3 e3⟩
      refine q_when (b := false) (et_is (et_or (a := false) (b := false) (et_is (et_test (ev_op (ixF (callB (k := bN 99) (b := decide (f0 % 2 = 0)) (ea_cons (ev_var rfl) (ea_cons (ev_cS (l := bN 99) (by decide +kernel)) (ea_cons (ev_eqN (m := 0) (ev_mod (m := 2) (ev_var rfl) rfl (by decide)) rfl) ea_nil))) w13.tr (by omega) (nm_b (by omega)).l (nm_b (by omega)).p hno)) (ev_cS (l := wFull) rfl) rv_neS)) (by simp)) fun _ => et_is (et_test (ev_op (ev_is (ev_meth (ev_var rfl) hp13 (flds_no d (by decide +kernel)) (ea_cons (ev_cS (l := bN 99) (by decide +kernel)) ea_nil) (writer_sp w13.tr)) (by rw [lk8]; rfl)) (ev_cS (l := eBuild) rfl) rv_neS)) (by simp)) rfl) (fun z => nomatch z) fun _ H14 e14 => ?_
      have w14 := w13.mono e14
      -- p2 goes
      obtain ⟨⟨dx14, hp14⟩, _⟩ := id w14.tr
      refine ⟨_, rfl, p, dx14, _, rfl, hp14, flds_no d (by decide +kernel), ?_⟩
      refine ea_cons (ev_cS (l := pN 2) (by decide +kernel)) ea_nil H14 (Ex.refl _) _ fun H15 e15 => ?_
      have w15 := w14.mono e15
      refine ⟨p, d, es8, pN 2, rfl, w15.tr, (nm_p (by omega)).l, fun z => ?_, fun _ H16 T16 k16 => ?_⟩
      · obtain ⟨e, h1, _⟩ := (pl8.pe (pN 2)).mpr (by decide +kernel)
        rw [z] at h1
        cases h1
      have w16 := w15.deed T16 k16
      have pl16 : Pl (dropE es8 (pN 2)) L59 := pl8.drop
      have hl16 : (dropE es8 (pN 2)).length ≤ es8.length := List.length_filter_le _ _
      have hz16 : look (dropE es8 (pN 2)) (pN 2) = none := by rw [look_drop, if_pos rfl]
      generalize dropE es8 (pN 2) = es16 at w16 pl16 hl16 hz16
      -- b99 is written
      refine ⟨_, rfl, ?_⟩
      refine ⟨p, d, es16, bN 99, false, (by rw [show S (bN 99) = Str.ofString "b99" from (S1 _ (by decide +kernel)).symm]; rfl), w16.tr, by omega, (nm_b (by omega)).l, (nm_b (by omega)).p, fun z => ?_, fun _ v H17 hv T17 k17 => ?_⟩
      · rw [pl16.room l59.1, l59.2.1] at z
        simp at z
      refine ne_D (Q := fun b H3 => if b = true then _ else _) hv evd_done shDone fun H18 e18 => ?_
      have w18 := (w16.deed T17 k17).mono e18
      have pl18 : Pl (put es16 (bN 99) (persE false)) (L59 ++ [bN 99]) := pl16.more (nm_b (by omega)).o
      have lk18 : look (put es16 (bN 99) (persE false)) (bN 99) = some (persE false) := by rw [look_put, if_pos rfl]
      have lz18 : look (put es16 (bN 99) (persE false)) (pN 2) = none := by rw [look_put, if_neg pN_bN, hz16]
      have hl18 := put_len es16 (bN 99) (persE false)
      generalize put es16 (bN 99) (persE false) = es18 at w18 pl18 lk18 lz18 hl18
      obtain ⟨⟨dx18, hp18⟩, _⟩ := id w18.tr
      rw [if_neg (show ¬ (false = true) from fun z => nomatch z)]
      refine et_is (b := false) (et_test (ev_op (ev_is (ev_meth (ev_var rfl) hp18 (flds_no d (by decide +kernel)) (ea_cons (ev_cS (l := bN 99) (by decide +kernel)) ea_nil) (writer_sp w18.tr)) (by rw [lk18]; rfl)) (ev_cS (l := ePerson) rfl) rv_neS)) (by simp) H18 (Ex.refl _) _ fun H19 e19 => ?_
      have w19 := w18.mono e19
      obtain ⟨⟨dx19, hp19⟩, _⟩ := id w19.tr
      rw [if_neg (show ¬ (false = true) from fun z => nomatch z)]
      unfold tNext
      dsimp only
      refine s_ret (v := .bl true) (ev_is (ev_andV (a := true) (b := true) (ev_is (ev_op (ixF (callB (k := pN 2) (b := true) (ea_cons (ev_var rfl) (ea_cons (ev_cS (l := pN 2) (by decide +kernel)) (ea_cons ev_c ea_nil))) w19.tr (by omega) (nm_p (by omega)).l (nm_p (by omega)).p ?_)) (ev_cS (l := wFull) rfl) rv_eqS) (by simp)) fun _ => ev_is (ev_op (ev_is (w := .str (S eNone)) (ev_meth (ev_var rfl) hp19 (flds_no d (by decide +kernel)) (ea_cons (ev_cS (l := pN 2) (by decide +kernel)) ea_nil) (kind_sp w19.tr)) (by rw [lz18]; rfl)) (ev_cS (l := eNone) rfl) rv_eqS) (congrArg V.bl (decide_eq_true rfl))) rfl) fun H20 e20 => q H20 ((w19.mono e20).ex)
      rw [pl18.room l59.2.2.1, decide_eq_false l59.2.2.2.2, l59.2.2.2.1]
      rfl
end

theorem all_mk {l : PySem.W.OpenLaw} {w : World} {K : PySem.W.Frag} {h : Heap} {mg : Str → Option Value} {fa : Addr} (X : K.In h) (G : h.Ns mainGlobals mg) (hfa : mg "law" = some (.ref fa))
    {f0 f1 f2 f3 f4 f5 f6 f7 f8 f9 f10 f11 f12 f13 f14 f15 f16 f17 f18 f19 f20 f21 : Addr} {od0 od1 od2 od3 od4 od5 od6 od7 od8 od9 od10 od11 od12 od13 od14 od15 od16 od17 od18 od19 od20 od21 an0 an1 an2 an3 an4 an5 an6 an7 an8 an9 an10 an11 an12 an13 an14 an15 an16 an17 an18 an19 an20 an21 : Option Addr} {sl0 sl1 sl2 sl3 sl4 sl5 sl6 sl7 sl8 sl9 sl10 sl11 sl12 sl13 sl14 sl15 sl16 sl17 sl18 sl19 sl20 sl21 : Array (Option Value)} {oc0 oc1 oc2 oc3 oc4 oc5 oc6 oc7 oc8 oc9 oc10 oc11 oc12 oc13 oc14 oc15 oc16 oc17 oc18 oc19 oc20 oc21 kV0 kV1 kV2 kV3 kV4 kV5 kV6 kV7 kV8 kV9 kV10 kV11 kV12 kV13 kV14 kV15 kV16 kV17 kV18 kV19 kV20 kV21 dc0 dc1 dc2 dc3 dc4 dc5 dc6 dc7 dc8 dc9 dc10 dc11 dc12 dc13 dc14 dc15 dc16 dc17 dc18 dc19 dc20 dc21 pm0 pm1 pm2 pm3 pm4 pm5 pm6 pm7 pm8 pm9 pm10 pm11 pm12 pm13 pm14 pm15 pm16 pm17 pm18 pm19 pm20 pm21 cd0 cd1 cd2 cd3 cd4 cd5 cd6 cd7 cd8 cd9 cd10 cd11 cd12 cd13 cd14 cd15 cd16 cd17 cd18 cd19 cd20 cd21 ct0 ct1 ct2 ct3 ct4 ct5 ct6 ct7 ct8 ct9 ct10 ct11 ct12 ct13 ct14 ct15 ct16 ct17 ct18 ct19 ct20 ct21 : Value}
    {C : Addr}
    {XB : Addr}
    {X_InvalidPath N_InvalidPath_ : Addr} {nm_InvalidPath q_InvalidPath : Str} {bs_InvalidPath : List Value} {sn_InvalidPath : List Str} {sub_InvalidPath : List Value} {ab_InvalidPath : Bool} {col_InvalidPath : Option Bool} {dd_InvalidPath : Option Addr} {m0_InvalidPath m1_InvalidPath m2_InvalidPath m3_InvalidPath m5_InvalidPath : Option Value}
    {X_InvalidContent N_InvalidContent_ : Addr} {nm_InvalidContent q_InvalidContent : Str} {bs_InvalidContent : List Value} {sn_InvalidContent : List Str} {sub_InvalidContent : List Value} {ab_InvalidContent : Bool} {col_InvalidContent : Option Bool} {dd_InvalidContent : Option Addr} {m0_InvalidContent m1_InvalidContent m2_InvalidContent m3_InvalidContent m5_InvalidContent : Option Value}
    {X_NoEntry N_NoEntry_ : Addr} {nm_NoEntry q_NoEntry : Str} {bs_NoEntry : List Value} {sn_NoEntry : List Str} {sub_NoEntry : List Value} {ab_NoEntry : Bool} {col_NoEntry : Option Bool} {dd_NoEntry : Option Addr} {m0_NoEntry m1_NoEntry m2_NoEntry m3_NoEntry m5_NoEntry : Option Value}
    {X_TreeFull N_TreeFull_ : Addr} {nm_TreeFull q_TreeFull : Str} {bs_TreeFull : List Value} {sn_TreeFull : List Str} {sub_TreeFull : List Value} {ab_TreeFull : Bool} {col_TreeFull : Option Bool} {dd_TreeFull : Option Addr} {m0_TreeFull m1_TreeFull m2_TreeFull m3_TreeFull m5_TreeFull : Option Value}
    {tk_CONTENT_LENGTH tk_NEWLINE tk_SPACE tk_PERCENT tk_TILDE tk_MOST_NAMES tk_NAME_LENGTH tk_NAME_SIGNS tk_MOST_PERSONS_ENTRIES : Tok}
    (aC : PySem.W.nsIn K mainGlobals "Tree" = some (some (.ref C)))
    (aB : PySem.W.nsIn K mainGlobals "BuildError" = some (some (.ref XB)))
    (bsp : PySem.W.specialIn K (.ref XB) "__getattribute__" = some (some (.builtin "type.__getattribute__")))
    (brd : PySem.W.readsIn K XB (.type "type") = true)
    (bfi : PySem.W.findCls K (.ref XB) (.type "type") "__init__" = some (.val (.builtin "ValueError.__init__")))
    (bhd : PySem.W.hasDictIn K XB = true)
    (bty : PySem.W.typeIn K (.ref XB) = some (.type "type"))
    (xgs : PySem.W.specialIn K (.builtin "object.__class__") "__get__" = some (some (.builtin "getset_descriptor.__get__")))
    (xtk : PySem.W.takesIn K (.builtin "object.__class__") = some true)
    (xa_InvalidPath : PySem.W.nsIn K mainGlobals "InvalidPath" = some (some (.ref X_InvalidPath)))
    (xL_InvalidPath : K.lookup X_InvalidPath = some (excClassObj nm_InvalidPath q_InvalidPath X_InvalidPath N_InvalidPath_ bs_InvalidPath [.ref XB, .type "ValueError", .type "Exception", .type "BaseException", .type "object"] true sn_InvalidPath sub_InvalidPath ab_InvalidPath col_InvalidPath dd_InvalidPath m0_InvalidPath m1_InvalidPath m2_InvalidPath m3_InvalidPath m5_InvalidPath "ValueError.__new__"))
    (xsa_InvalidPath : PySem.W.findIn K (.ref X_InvalidPath) "__setattr__" = some (some (.builtin "object.__setattr__")))
    (xex_InvalidPath : PySem.W.subIn K (.ref X_InvalidPath) (.type "BaseException") = some true)
    (xty_InvalidPath : PySem.W.typeIn K (.ref X_InvalidPath) = some (.type "type"))
    (xkc_InvalidPath : PySem.W.keepIn K (.ref X_InvalidPath) = true)
    (xnpath_InvalidPath : PySem.W.findIn K (.ref X_InvalidPath) "path" = some none)
    (xga_InvalidPath : PySem.W.findIn K (.ref X_InvalidPath) "__getattribute__" = some (some (.builtin "BaseException.__getattribute__")))
    (xgg_InvalidPath : PySem.W.findIn K (.ref X_InvalidPath) "__getattr__" = some none)
    (xhd_InvalidPath : PySem.W.hasDictIn K X_InvalidPath = true)
    (xcl_InvalidPath : PySem.W.findIn K (.ref X_InvalidPath) "__class__" = some (some (.builtin "object.__class__")))
    (xmr_InvalidPath : PySem.W.mroIn K X_InvalidPath (.type "object") = some true)
    (xcc_InvalidPath : PySem.W.subIn K (.ref X_InvalidPath) (.ref X_InvalidPath) = some true)
    (xkB_InvalidPath : PySem.W.subIn K (.ref X_InvalidPath) (.ref XB) = some true)
    (xa_InvalidContent : PySem.W.nsIn K mainGlobals "InvalidContent" = some (some (.ref X_InvalidContent)))
    (xL_InvalidContent : K.lookup X_InvalidContent = some (excClassObj nm_InvalidContent q_InvalidContent X_InvalidContent N_InvalidContent_ bs_InvalidContent [.ref XB, .type "ValueError", .type "Exception", .type "BaseException", .type "object"] true sn_InvalidContent sub_InvalidContent ab_InvalidContent col_InvalidContent dd_InvalidContent m0_InvalidContent m1_InvalidContent m2_InvalidContent m3_InvalidContent m5_InvalidContent "ValueError.__new__"))
    (xsa_InvalidContent : PySem.W.findIn K (.ref X_InvalidContent) "__setattr__" = some (some (.builtin "object.__setattr__")))
    (xex_InvalidContent : PySem.W.subIn K (.ref X_InvalidContent) (.type "BaseException") = some true)
    (xty_InvalidContent : PySem.W.typeIn K (.ref X_InvalidContent) = some (.type "type"))
    (xkc_InvalidContent : PySem.W.keepIn K (.ref X_InvalidContent) = true)
    (xnpath_InvalidContent : PySem.W.findIn K (.ref X_InvalidContent) "path" = some none)
    (xga_InvalidContent : PySem.W.findIn K (.ref X_InvalidContent) "__getattribute__" = some (some (.builtin "BaseException.__getattribute__")))
    (xgg_InvalidContent : PySem.W.findIn K (.ref X_InvalidContent) "__getattr__" = some none)
    (xhd_InvalidContent : PySem.W.hasDictIn K X_InvalidContent = true)
    (xcl_InvalidContent : PySem.W.findIn K (.ref X_InvalidContent) "__class__" = some (some (.builtin "object.__class__")))
    (xmr_InvalidContent : PySem.W.mroIn K X_InvalidContent (.type "object") = some true)
    (xcc_InvalidContent : PySem.W.subIn K (.ref X_InvalidContent) (.ref X_InvalidContent) = some true)
    (xkB_InvalidContent : PySem.W.subIn K (.ref X_InvalidContent) (.ref XB) = some true)
    (xa_NoEntry : PySem.W.nsIn K mainGlobals "NoEntry" = some (some (.ref X_NoEntry)))
    (xL_NoEntry : K.lookup X_NoEntry = some (excClassObj nm_NoEntry q_NoEntry X_NoEntry N_NoEntry_ bs_NoEntry [.ref XB, .type "ValueError", .type "Exception", .type "BaseException", .type "object"] true sn_NoEntry sub_NoEntry ab_NoEntry col_NoEntry dd_NoEntry m0_NoEntry m1_NoEntry m2_NoEntry m3_NoEntry m5_NoEntry "ValueError.__new__"))
    (xsa_NoEntry : PySem.W.findIn K (.ref X_NoEntry) "__setattr__" = some (some (.builtin "object.__setattr__")))
    (xex_NoEntry : PySem.W.subIn K (.ref X_NoEntry) (.type "BaseException") = some true)
    (xty_NoEntry : PySem.W.typeIn K (.ref X_NoEntry) = some (.type "type"))
    (xkc_NoEntry : PySem.W.keepIn K (.ref X_NoEntry) = true)
    (xnpath_NoEntry : PySem.W.findIn K (.ref X_NoEntry) "path" = some none)
    (xga_NoEntry : PySem.W.findIn K (.ref X_NoEntry) "__getattribute__" = some (some (.builtin "BaseException.__getattribute__")))
    (xgg_NoEntry : PySem.W.findIn K (.ref X_NoEntry) "__getattr__" = some none)
    (xhd_NoEntry : PySem.W.hasDictIn K X_NoEntry = true)
    (xcl_NoEntry : PySem.W.findIn K (.ref X_NoEntry) "__class__" = some (some (.builtin "object.__class__")))
    (xmr_NoEntry : PySem.W.mroIn K X_NoEntry (.type "object") = some true)
    (xcc_NoEntry : PySem.W.subIn K (.ref X_NoEntry) (.ref X_NoEntry) = some true)
    (xkB_NoEntry : PySem.W.subIn K (.ref X_NoEntry) (.ref XB) = some true)
    (xa_TreeFull : PySem.W.nsIn K mainGlobals "TreeFull" = some (some (.ref X_TreeFull)))
    (xL_TreeFull : K.lookup X_TreeFull = some (excClassObj nm_TreeFull q_TreeFull X_TreeFull N_TreeFull_ bs_TreeFull [.ref XB, .type "ValueError", .type "Exception", .type "BaseException", .type "object"] true sn_TreeFull sub_TreeFull ab_TreeFull col_TreeFull dd_TreeFull m0_TreeFull m1_TreeFull m2_TreeFull m3_TreeFull m5_TreeFull "ValueError.__new__"))
    (xsa_TreeFull : PySem.W.findIn K (.ref X_TreeFull) "__setattr__" = some (some (.builtin "object.__setattr__")))
    (xex_TreeFull : PySem.W.subIn K (.ref X_TreeFull) (.type "BaseException") = some true)
    (xty_TreeFull : PySem.W.typeIn K (.ref X_TreeFull) = some (.type "type"))
    (xkc_TreeFull : PySem.W.keepIn K (.ref X_TreeFull) = true)
    (xnpath_TreeFull : PySem.W.findIn K (.ref X_TreeFull) "path" = some none)
    (xga_TreeFull : PySem.W.findIn K (.ref X_TreeFull) "__getattribute__" = some (some (.builtin "BaseException.__getattribute__")))
    (xgg_TreeFull : PySem.W.findIn K (.ref X_TreeFull) "__getattr__" = some none)
    (xhd_TreeFull : PySem.W.hasDictIn K X_TreeFull = true)
    (xcl_TreeFull : PySem.W.findIn K (.ref X_TreeFull) "__class__" = some (some (.builtin "object.__class__")))
    (xmr_TreeFull : PySem.W.mroIn K X_TreeFull (.type "object") = some true)
    (xcc_TreeFull : PySem.W.subIn K (.ref X_TreeFull) (.ref X_TreeFull) = some true)
    (xkB_TreeFull : PySem.W.subIn K (.ref X_TreeFull) (.ref XB) = some true)
    (xp_TreeFull_NoEntry : PySem.W.subIn K (.ref X_TreeFull) (.ref X_NoEntry) = some false)
    (a0 : PySem.W.findIn K (.ref X_InvalidPath) "__init__" = some (some (.ref f0)))
    (i0 : PySem.W.typeIn K (.ref f0) = some (.type "function"))
    (l0 : K.lookup f0 = some ⟨oc0, od0, .func (PySem.W.fnOf "__init__" "InvalidPath.__init__" (defArgs s_InvalidPath___init__) (defBody s_InvalidPath___init__) (defScope s_InvalidPath___init__) .none kV0 dc0 pm0 an0 cd0 ct0), sl0⟩)
    (c0 : PySem.W.codeIn K cd0 "InvalidPath.__init__" = true)
    (k0 : PySem.W.keepIn K (.ref f0) = true)
    (a1 : PySem.W.findIn K (.ref X_InvalidContent) "__init__" = some (some (.ref f1)))
    (i1 : PySem.W.typeIn K (.ref f1) = some (.type "function"))
    (l1 : K.lookup f1 = some ⟨oc1, od1, .func (PySem.W.fnOf "__init__" "InvalidContent.__init__" (defArgs s_InvalidContent___init__) (defBody s_InvalidContent___init__) (defScope s_InvalidContent___init__) .none kV1 dc1 pm1 an1 cd1 ct1), sl1⟩)
    (c1 : PySem.W.codeIn K cd1 "InvalidContent.__init__" = true)
    (k1 : PySem.W.keepIn K (.ref f1) = true)
    (a2 : PySem.W.findIn K (.ref X_NoEntry) "__init__" = some (some (.ref f2)))
    (i2 : PySem.W.typeIn K (.ref f2) = some (.type "function"))
    (l2 : K.lookup f2 = some ⟨oc2, od2, .func (PySem.W.fnOf "__init__" "NoEntry.__init__" (defArgs s_NoEntry___init__) (defBody s_NoEntry___init__) (defScope s_NoEntry___init__) .none kV2 dc2 pm2 an2 cd2 ct2), sl2⟩)
    (c2 : PySem.W.codeIn K cd2 "NoEntry.__init__" = true)
    (k2 : PySem.W.keepIn K (.ref f2) = true)
    (a3 : PySem.W.findIn K (.ref X_TreeFull) "__init__" = some (some (.ref f3)))
    (i3 : PySem.W.typeIn K (.ref f3) = some (.type "function"))
    (l3 : K.lookup f3 = some ⟨oc3, od3, .func (PySem.W.fnOf "__init__" "TreeFull.__init__" (defArgs s_TreeFull___init__) (defBody s_TreeFull___init__) (defScope s_TreeFull___init__) .none kV3 dc3 pm3 an3 cd3 ct3), sl3⟩)
    (c3 : PySem.W.codeIn K cd3 "TreeFull.__init__" = true)
    (k3 : PySem.W.keepIn K (.ref f3) = true)
    (a4 : PySem.W.nsIn K mainGlobals "_is_code" = some (some (.ref f4)))
    (l4 : K.lookup f4 = some ⟨oc4, od4, .func (PySem.W.fnOf "_is_code" "_is_code" (defArgs s__is_code) (defBody s__is_code) (defScope s__is_code) .none kV4 dc4 pm4 an4 cd4 ct4), sl4⟩)
    (c4 : PySem.W.codeIn K cd4 "_is_code" = true)
    (k4 : PySem.W.keepIn K (.ref f4) = true)
    (a5 : PySem.W.nsIn K mainGlobals "is_text" = some (some (.ref f5)))
    (l5 : K.lookup f5 = some ⟨oc5, od5, .func (PySem.W.fnOf "is_text" "is_text" (defArgs s_is_text) (defBody s_is_text) (defScope s_is_text) .none kV5 dc5 pm5 an5 cd5 ct5), sl5⟩)
    (c5 : PySem.W.codeIn K cd5 "is_text" = true)
    (k5 : PySem.W.keepIn K (.ref f5) = true)
    (a6 : PySem.W.nsIn K mainGlobals "is_content" = some (some (.ref f6)))
    (l6 : K.lookup f6 = some ⟨oc6, od6, .func (PySem.W.fnOf "is_content" "is_content" (defArgs s_is_content) (defBody s_is_content) (defScope s_is_content) .none kV6 dc6 pm6 an6 cd6 ct6), sl6⟩)
    (c6 : PySem.W.codeIn K cd6 "is_content" = true)
    (k6 : PySem.W.keepIn K (.ref f6) = true)
    (a7 : PySem.W.nsIn K mainGlobals "_is_name" = some (some (.ref f7)))
    (l7 : K.lookup f7 = some ⟨oc7, od7, .func (PySem.W.fnOf "_is_name" "_is_name" (defArgs s__is_name) (defBody s__is_name) (defScope s__is_name) .none kV7 dc7 pm7 an7 cd7 ct7), sl7⟩)
    (c7 : PySem.W.codeIn K cd7 "_is_name" = true)
    (k7 : PySem.W.keepIn K (.ref f7) = true)
    (a8 : PySem.W.nsIn K mainGlobals "is_path" = some (some (.ref f8)))
    (l8 : K.lookup f8 = some ⟨oc8, od8, .func (PySem.W.fnOf "is_path" "is_path" (defArgs s_is_path) (defBody s_is_path) (defScope s_is_path) .none kV8 dc8 pm8 an8 cd8 ct8), sl8⟩)
    (c8 : PySem.W.codeIn K cd8 "is_path" = true)
    (k8 : PySem.W.keepIn K (.ref f8) = true)
    (a9 : PySem.W.nsIn K mainGlobals "_is_persons" = some (some (.ref f9)))
    (l9 : K.lookup f9 = some ⟨oc9, od9, .func (PySem.W.fnOf "_is_persons" "_is_persons" (defArgs s__is_persons) (defBody s__is_persons) (defScope s__is_persons) .none kV9 dc9 pm9 an9 cd9 ct9), sl9⟩)
    (c9 : PySem.W.codeIn K cd9 "_is_persons" = true)
    (k9 : PySem.W.keepIn K (.ref f9) = true)
    (a10 : PySem.W.findIn K (.ref C) "__init__" = some (some (.ref f10)))
    (i10 : PySem.W.isFn K (.ref f10) = true)
    (l10 : K.lookup f10 = some ⟨oc10, od10, .func (PySem.W.fnOf "__init__" "Tree.__init__" (defArgs s_Tree___init__) (defBody s_Tree___init__) (defScope s_Tree___init__) .none kV10 dc10 pm10 an10 cd10 ct10), sl10⟩)
    (c10 : PySem.W.codeIn K cd10 "Tree.__init__" = true)
    (k10 : PySem.W.keepIn K (.ref f10) = true)
    (a11 : PySem.W.findIn K (.ref C) "kind" = some (some (.ref f11)))
    (i11 : PySem.W.isFn K (.ref f11) = true)
    (l11 : K.lookup f11 = some ⟨oc11, od11, .func (PySem.W.fnOf "kind" "Tree.kind" (defArgs s_Tree_kind) (defBody s_Tree_kind) (defScope s_Tree_kind) .none kV11 dc11 pm11 an11 cd11 ct11), sl11⟩)
    (c11 : PySem.W.codeIn K cd11 "Tree.kind" = true)
    (k11 : PySem.W.keepIn K (.ref f11) = true)
    (a12 : PySem.W.findIn K (.ref C) "read" = some (some (.ref f12)))
    (i12 : PySem.W.isFn K (.ref f12) = true)
    (l12 : K.lookup f12 = some ⟨oc12, od12, .func (PySem.W.fnOf "read" "Tree.read" (defArgs s_Tree_read) (defBody s_Tree_read) (defScope s_Tree_read) .none kV12 dc12 pm12 an12 cd12 ct12), sl12⟩)
    (c12 : PySem.W.codeIn K cd12 "Tree.read" = true)
    (k12 : PySem.W.keepIn K (.ref f12) = true)
    (a13 : PySem.W.findIn K (.ref C) "writer" = some (some (.ref f13)))
    (i13 : PySem.W.isFn K (.ref f13) = true)
    (l13 : K.lookup f13 = some ⟨oc13, od13, .func (PySem.W.fnOf "writer" "Tree.writer" (defArgs s_Tree_writer) (defBody s_Tree_writer) (defScope s_Tree_writer) .none kV13 dc13 pm13 an13 cd13 ct13), sl13⟩)
    (c13 : PySem.W.codeIn K cd13 "Tree.writer" = true)
    (k13 : PySem.W.keepIn K (.ref f13) = true)
    (a14 : PySem.W.findIn K (.ref C) "_has_room" = some (some (.ref f14)))
    (i14 : PySem.W.isFn K (.ref f14) = true)
    (l14 : K.lookup f14 = some ⟨oc14, od14, .func (PySem.W.fnOf "_has_room" "Tree._has_room" (defArgs s_Tree__has_room) (defBody s_Tree__has_room) (defScope s_Tree__has_room) .none kV14 dc14 pm14 an14 cd14 ct14), sl14⟩)
    (c14 : PySem.W.codeIn K cd14 "Tree._has_room" = true)
    (k14 : PySem.W.keepIn K (.ref f14) = true)
    (a15 : PySem.W.findIn K (.ref C) "paths" = some (some (.ref f15)))
    (i15 : PySem.W.isFn K (.ref f15) = true)
    (l15 : K.lookup f15 = some ⟨oc15, od15, .func (PySem.W.fnOf "paths" "Tree.paths" (defArgs s_Tree_paths) (defBody s_Tree_paths) (defScope s_Tree_paths) .none kV15 dc15 pm15 an15 cd15 ct15), sl15⟩)
    (c15 : PySem.W.codeIn K cd15 "Tree.paths" = true)
    (k15 : PySem.W.keepIn K (.ref f15) = true)
    (a16 : PySem.W.findIn K (.ref C) "write" = some (some (.ref f16)))
    (i16 : PySem.W.isFn K (.ref f16) = true)
    (l16 : K.lookup f16 = some ⟨oc16, od16, .func (PySem.W.fnOf "write" "Tree.write" (defArgs s_Tree_write) (defBody s_Tree_write) (defScope s_Tree_write) .none kV16 dc16 pm16 an16 cd16 ct16), sl16⟩)
    (c16 : PySem.W.codeIn K cd16 "Tree.write" = true)
    (k16 : PySem.W.keepIn K (.ref f16) = true)
    (a17 : PySem.W.findIn K (.ref C) "link" = some (some (.ref f17)))
    (i17 : PySem.W.isFn K (.ref f17) = true)
    (l17 : K.lookup f17 = some ⟨oc17, od17, .func (PySem.W.fnOf "link" "Tree.link" (defArgs s_Tree_link) (defBody s_Tree_link) (defScope s_Tree_link) .none kV17 dc17 pm17 an17 cd17 ct17), sl17⟩)
    (c17 : PySem.W.codeIn K cd17 "Tree.link" = true)
    (k17 : PySem.W.keepIn K (.ref f17) = true)
    (a18 : PySem.W.findIn K (.ref C) "erase" = some (some (.ref f18)))
    (i18 : PySem.W.isFn K (.ref f18) = true)
    (l18 : K.lookup f18 = some ⟨oc18, od18, .func (PySem.W.fnOf "erase" "Tree.erase" (defArgs s_Tree_erase) (defBody s_Tree_erase) (defScope s_Tree_erase) .none kV18 dc18 pm18 an18 cd18 ct18), sl18⟩)
    (c18 : PySem.W.codeIn K cd18 "Tree.erase" = true)
    (k18 : PySem.W.keepIn K (.ref f18) = true)
    (a19 : PySem.W.nsIn K mainGlobals "_law_cell" = some (some (.ref f19)))
    (l19 : K.lookup f19 = some ⟨oc19, od19, .func (PySem.W.fnOf "_law_cell" "_law_cell" (defArgs s__law_cell) (defBody s__law_cell) (defScope s__law_cell) .none kV19 dc19 pm19 an19 cd19 ct19), sl19⟩)
    (c19 : PySem.W.codeIn K cd19 "_law_cell" = true)
    (k19 : PySem.W.keepIn K (.ref f19) = true)
    (a20 : PySem.W.nsIn K mainGlobals "_law_personal" = some (some (.ref f20)))
    (l20 : K.lookup f20 = some ⟨oc20, od20, .func (PySem.W.fnOf "_law_personal" "_law_personal" (defArgs s__law_personal) (defBody s__law_personal) (defScope s__law_personal) .none kV20 dc20 pm20 an20 cd20 ct20), sl20⟩)
    (c20 : PySem.W.codeIn K cd20 "_law_personal" = true)
    (k20 : PySem.W.keepIn K (.ref f20) = true)
    (a21 : PySem.W.nsIn K mainGlobals "law" = some (some (.ref f21)))
    (l21 : K.lookup f21 = some ⟨oc21, od21, .func (PySem.W.fnOf "law" "law" (defArgs s_law) (defBody s_law) (defScope s_law) .none kV21 dc21 pm21 an21 cd21 ct21), sl21⟩)
    (c21 : PySem.W.codeIn K cd21 "law" = true)
    (k21 : PySem.W.keepIn K (.ref f21) = true)
    (pg : PySem.W.plainGet K C Str.empty = true)
    (hdi : PySem.W.hasDictIn K C = true)
    (po : PySem.W.plainOver K C = true)
    (sa : PySem.W.findIn K (.ref C) "__setattr__" = some (some (.builtin "object.__setattr__")))
    (mk : PySem.W.makesIn K C = true)
    (kc : PySem.W.keepIn K (.ref C) = true)
    (na_entries : PySem.W.findIn K (.ref C) "entries" = some none)
    (zb_abs : PySem.W.nsIn K mainGlobals "abs" = some none)
    (zb_all : PySem.W.nsIn K mainGlobals "all" = some none)
    (zb_int : PySem.W.nsIn K mainGlobals "int" = some none)
    (zb_isinstance : PySem.W.nsIn K mainGlobals "isinstance" = some none)
    (zb_len : PySem.W.nsIn K mainGlobals "len" = some none)
    (zb_ord : PySem.W.nsIn K mainGlobals "ord" = some none)
    (zb_range : PySem.W.nsIn K mainGlobals "range" = some none)
    (zb_sorted : PySem.W.nsIn K mainGlobals "sorted" = some none)
    (zb_str : PySem.W.nsIn K mainGlobals "str" = some none)
    (zc_CONTENT_LENGTH : PySem.W.nsIn K mainGlobals "CONTENT_LENGTH" = some (some (.int 400 tk_CONTENT_LENGTH)))
    (zc_NEWLINE : PySem.W.nsIn K mainGlobals "NEWLINE" = some (some (.int 10 tk_NEWLINE)))
    (zc_SPACE : PySem.W.nsIn K mainGlobals "SPACE" = some (some (.int 32 tk_SPACE)))
    (zc_PERCENT : PySem.W.nsIn K mainGlobals "PERCENT" = some (some (.int 37 tk_PERCENT)))
    (zc_TILDE : PySem.W.nsIn K mainGlobals "TILDE" = some (some (.int 126 tk_TILDE)))
    (zc_MOST_NAMES : PySem.W.nsIn K mainGlobals "MOST_NAMES" = some (some (.int 4 tk_MOST_NAMES)))
    (zc_NAME_LENGTH : PySem.W.nsIn K mainGlobals "NAME_LENGTH" = some (some (.int 12 tk_NAME_LENGTH)))
    (zc_NAME_SIGNS : PySem.W.nsIn K mainGlobals "NAME_SIGNS" = some (some (.str (Str.ofString "abcdefghijklmnopqrstuvwxyz0123456789_.") tk_NAME_SIGNS)))
    (zc_MOST_PERSONS_ENTRIES : PySem.W.nsIn K mainGlobals "MOST_PERSONS_ENTRIES" = some (some (.int 60 tk_MOST_PERSONS_ENTRIES)))
    : ∃ fd : FuncData, (∀ (s : Shared) (v : Value), BindsTo s fd ⟨[v], []⟩ [("script", v)]) ∧ ∀ base : Heap, K.In base → base.Ns mainGlobals mg → FnOk l.prog w K mg base CX0 6 fa fd ["script"] (sp_law K) := by
  cases hfa.symm.trans (PySem.W.mg_of X G a21)
  have T : Tx mg := ⟨PySem.W.mg_none_of X G zb_abs, PySem.W.mg_none_of X G zb_all, PySem.W.mg_none_of X G zb_int, PySem.W.mg_none_of X G zb_isinstance, PySem.W.mg_none_of X G zb_len, PySem.W.mg_none_of X G zb_ord, PySem.W.mg_none_of X G zb_range, PySem.W.mg_none_of X G zb_sorted, PySem.W.mg_none_of X G zb_str, ⟨_, PySem.W.mg_of X G zc_CONTENT_LENGTH, ⟨_, rfl⟩⟩, ⟨_, PySem.W.mg_of X G zc_NEWLINE, ⟨_, rfl⟩⟩, ⟨_, PySem.W.mg_of X G zc_SPACE, ⟨_, rfl⟩⟩, ⟨_, PySem.W.mg_of X G zc_PERCENT, ⟨_, rfl⟩⟩, ⟨_, PySem.W.mg_of X G zc_TILDE, ⟨_, rfl⟩⟩, ⟨_, PySem.W.mg_of X G zc_MOST_NAMES, ⟨_, rfl⟩⟩, ⟨_, PySem.W.mg_of X G zc_NAME_LENGTH, ⟨_, rfl⟩⟩, ⟨_, PySem.W.mg_of X G zc_NAME_SIGNS, ⟨_, rfl⟩⟩, ⟨_, PySem.W.mg_of X G zc_MOST_PERSONS_ENTRIES, ⟨_, rfl⟩⟩⟩
  have TC : Tc K C := ⟨⟨pg, hdi, po, sa⟩, na_entries⟩
  have x_InvalidPath : Kn.Xc K X_InvalidPath XB := ⟨⟨⟨nm_InvalidPath, q_InvalidPath, N_InvalidPath_, bs_InvalidPath, _, sn_InvalidPath, sub_InvalidPath, ab_InvalidPath, col_InvalidPath, dd_InvalidPath, m0_InvalidPath, m1_InvalidPath, m2_InvalidPath, m3_InvalidPath, m5_InvalidPath, xL_InvalidPath, rfl⟩, xsa_InvalidPath, xex_InvalidPath, xty_InvalidPath, xkc_InvalidPath⟩, ⟨xga_InvalidPath, xgg_InvalidPath, xex_InvalidPath, xhd_InvalidPath, xcl_InvalidPath, xgs, xtk, xmr_InvalidPath⟩, ⟨xga_InvalidPath, xgg_InvalidPath, xex_InvalidPath, xhd_InvalidPath⟩, PySem.W.exm_ref xex_InvalidPath xhd_InvalidPath xty_InvalidPath xcc_InvalidPath, Kn.kit_ref bhd bty xkB_InvalidPath xcc_InvalidPath⟩
  have x_InvalidContent : Kn.Xc K X_InvalidContent XB := ⟨⟨⟨nm_InvalidContent, q_InvalidContent, N_InvalidContent_, bs_InvalidContent, _, sn_InvalidContent, sub_InvalidContent, ab_InvalidContent, col_InvalidContent, dd_InvalidContent, m0_InvalidContent, m1_InvalidContent, m2_InvalidContent, m3_InvalidContent, m5_InvalidContent, xL_InvalidContent, rfl⟩, xsa_InvalidContent, xex_InvalidContent, xty_InvalidContent, xkc_InvalidContent⟩, ⟨xga_InvalidContent, xgg_InvalidContent, xex_InvalidContent, xhd_InvalidContent, xcl_InvalidContent, xgs, xtk, xmr_InvalidContent⟩, ⟨xga_InvalidContent, xgg_InvalidContent, xex_InvalidContent, xhd_InvalidContent⟩, PySem.W.exm_ref xex_InvalidContent xhd_InvalidContent xty_InvalidContent xcc_InvalidContent, Kn.kit_ref bhd bty xkB_InvalidContent xcc_InvalidContent⟩
  have x_NoEntry : Kn.Xc K X_NoEntry XB := ⟨⟨⟨nm_NoEntry, q_NoEntry, N_NoEntry_, bs_NoEntry, _, sn_NoEntry, sub_NoEntry, ab_NoEntry, col_NoEntry, dd_NoEntry, m0_NoEntry, m1_NoEntry, m2_NoEntry, m3_NoEntry, m5_NoEntry, xL_NoEntry, rfl⟩, xsa_NoEntry, xex_NoEntry, xty_NoEntry, xkc_NoEntry⟩, ⟨xga_NoEntry, xgg_NoEntry, xex_NoEntry, xhd_NoEntry, xcl_NoEntry, xgs, xtk, xmr_NoEntry⟩, ⟨xga_NoEntry, xgg_NoEntry, xex_NoEntry, xhd_NoEntry⟩, PySem.W.exm_ref xex_NoEntry xhd_NoEntry xty_NoEntry xcc_NoEntry, Kn.kit_ref bhd bty xkB_NoEntry xcc_NoEntry⟩
  have x_TreeFull : Kn.Xc K X_TreeFull XB := ⟨⟨⟨nm_TreeFull, q_TreeFull, N_TreeFull_, bs_TreeFull, _, sn_TreeFull, sub_TreeFull, ab_TreeFull, col_TreeFull, dd_TreeFull, m0_TreeFull, m1_TreeFull, m2_TreeFull, m3_TreeFull, m5_TreeFull, xL_TreeFull, rfl⟩, xsa_TreeFull, xex_TreeFull, xty_TreeFull, xkc_TreeFull⟩, ⟨xga_TreeFull, xgg_TreeFull, xex_TreeFull, xhd_TreeFull, xcl_TreeFull, xgs, xtk, xmr_TreeFull⟩, ⟨xga_TreeFull, xgg_TreeFull, xex_TreeFull, xhd_TreeFull⟩, PySem.W.exm_ref xex_TreeFull xhd_TreeFull xty_TreeFull xcc_TreeFull, Kn.kit_ref bhd bty xkB_TreeFull xcc_TreeFull⟩
  let GX : Gx K mg := { c_BuildError := XB, g_BuildError := PySem.W.mg_of X G aB, b_BuildError := ⟨bsp, brd, bfi⟩, c_InvalidPath := X_InvalidPath, g_InvalidPath := PySem.W.mg_of X G xa_InvalidPath, x_InvalidPath := x_InvalidPath, n_InvalidPath_path := xnpath_InvalidPath, c_InvalidContent := X_InvalidContent, g_InvalidContent := PySem.W.mg_of X G xa_InvalidContent, x_InvalidContent := x_InvalidContent, n_InvalidContent_path := xnpath_InvalidContent, c_NoEntry := X_NoEntry, g_NoEntry := PySem.W.mg_of X G xa_NoEntry, x_NoEntry := x_NoEntry, n_NoEntry_path := xnpath_NoEntry, c_TreeFull := X_TreeFull, g_TreeFull := PySem.W.mg_of X G xa_TreeFull, x_TreeFull := x_TreeFull, n_TreeFull_path := xnpath_TreeFull, k_TreeFull_NoEntry := Kn.kit_ref xhd_NoEntry xty_NoEntry xp_TreeFull_NoEntry xcc_TreeFull }
  have F0 := fun_mk (st := s_InvalidPath___init__) l0 c0 k0
  have b0 := F0.binds (ps := ["self", "path"]) fun _ _ _ _ _ _ us hl => match us, hl with | [_, _], _ => rfl
  have F1 := fun_mk (st := s_InvalidContent___init__) l1 c1 k1
  have b1 := F1.binds (ps := ["self", "path"]) fun _ _ _ _ _ _ us hl => match us, hl with | [_, _], _ => rfl
  have F2 := fun_mk (st := s_NoEntry___init__) l2 c2 k2
  have b2 := F2.binds (ps := ["self", "path"]) fun _ _ _ _ _ _ us hl => match us, hl with | [_, _], _ => rfl
  have F3 := fun_mk (st := s_TreeFull___init__) l3 c3 k3
  have b3 := F3.binds (ps := ["self", "path"]) fun _ _ _ _ _ _ us hl => match us, hl with | [_, _], _ => rfl
  have F4 := fun_mk (st := s__is_code) l4 c4 k4
  have b4 := F4.binds (ps := ["code"]) fun _ _ _ _ _ _ us hl => match us, hl with | [_], _ => rfl
  have F5 := fun_mk (st := s_is_text) l5 c5 k5
  have b5 := F5.binds (ps := ["value"]) fun _ _ _ _ _ _ us hl => match us, hl with | [_], _ => rfl
  have F6 := fun_mk (st := s_is_content) l6 c6 k6
  have b6 := F6.binds (ps := ["value"]) fun _ _ _ _ _ _ us hl => match us, hl with | [_], _ => rfl
  have F7 := fun_mk (st := s__is_name) l7 c7 k7
  have b7 := F7.binds (ps := ["name"]) fun _ _ _ _ _ _ us hl => match us, hl with | [_], _ => rfl
  have F8 := fun_mk (st := s_is_path) l8 c8 k8
  have b8 := F8.binds (ps := ["value"]) fun _ _ _ _ _ _ us hl => match us, hl with | [_], _ => rfl
  have F9 := fun_mk (st := s__is_persons) l9 c9 k9
  have b9 := F9.binds (ps := ["entry"]) fun _ _ _ _ _ _ us hl => match us, hl with | [_], _ => rfl
  have F10 := fun_mk (st := s_Tree___init__) l10 c10 k10
  have b10 := F10.binds (ps := ["self"]) fun _ _ _ _ _ _ us hl => match us, hl with | [_], _ => rfl
  have F11 := fun_mk (st := s_Tree_kind) l11 c11 k11
  have b11 := F11.binds (ps := ["self", "path"]) fun _ _ _ _ _ _ us hl => match us, hl with | [_, _], _ => rfl
  have F12 := fun_mk (st := s_Tree_read) l12 c12 k12
  have b12 := F12.binds (ps := ["self", "path"]) fun _ _ _ _ _ _ us hl => match us, hl with | [_, _], _ => rfl
  have F13 := fun_mk (st := s_Tree_writer) l13 c13 k13
  have b13 := F13.binds (ps := ["self", "path"]) fun _ _ _ _ _ _ us hl => match us, hl with | [_, _], _ => rfl
  have F14 := fun_mk (st := s_Tree__has_room) l14 c14 k14
  have b14 := F14.binds (ps := ["self", "path"]) fun _ _ _ _ _ _ us hl => match us, hl with | [_, _], _ => rfl
  have F15 := fun_mk (st := s_Tree_paths) l15 c15 k15
  have b15 := F15.binds (ps := ["self"]) fun _ _ _ _ _ _ us hl => match us, hl with | [_], _ => rfl
  have F16 := fun_mk (st := s_Tree_write) l16 c16 k16
  have b16 := F16.binds (ps := ["self", "path", "text", "by"]) fun _ _ _ _ _ _ us hl => match us, hl with | [_, _, _, _], _ => rfl
  have F17 := fun_mk (st := s_Tree_link) l17 c17 k17
  have b17 := F17.binds (ps := ["self", "path", "target"]) fun _ _ _ _ _ _ us hl => match us, hl with | [_, _, _], _ => rfl
  have F18 := fun_mk (st := s_Tree_erase) l18 c18 k18
  have b18 := F18.binds (ps := ["self", "path"]) fun _ _ _ _ _ _ us hl => match us, hl with | [_, _], _ => rfl
  have F19 := fun_mk (st := s__law_cell) l19 c19 k19
  have b19 := F19.binds (ps := ["script", "k"]) fun _ _ _ _ _ _ us hl => match us, hl with | [_, _], _ => rfl
  have F20 := fun_mk (st := s__law_personal) l20 c20 k20
  have b20 := F20.binds (ps := ["tree", "path", "is_link"]) fun _ _ _ _ _ _ us hl => match us, hl with | [_, _, _], _ => rfl
  have F21 := fun_mk (st := s_law) l21 c21 k21
  have b21 := F21.binds (ps := ["script"]) fun _ _ _ _ _ _ us hl => match us, hl with | [_], _ => rfl
  refine ⟨PySem.W.fnOf "law" "law" (defArgs s_law) (defBody s_law) (defScope s_law) .none kV21 dc21 pm21 an21 cd21 ct21, fun s v => .of_eq rfl, fun base _ _ => ?_⟩
  have Z_InvalidPath : Kn.Xk l.prog w K mg base 1 "InvalidPath" GX.c_InvalidPath (sp_I1 "path" K) := ⟨x_InvalidPath.oe, _, _, _, a0, i0, ok_InvalidPath___init__ F0 T GX, b0, PySem.W.mg_of X G xa_InvalidPath⟩
  have Z_InvalidContent : Kn.Xk l.prog w K mg base 1 "InvalidContent" GX.c_InvalidContent (sp_I1 "path" K) := ⟨x_InvalidContent.oe, _, _, _, a1, i1, ok_InvalidContent___init__ F1 T GX, b1, PySem.W.mg_of X G xa_InvalidContent⟩
  have Z_NoEntry : Kn.Xk l.prog w K mg base 1 "NoEntry" GX.c_NoEntry (sp_I1 "path" K) := ⟨x_NoEntry.oe, _, _, _, a2, i2, ok_NoEntry___init__ F2 T GX, b2, PySem.W.mg_of X G xa_NoEntry⟩
  have Z_TreeFull : Kn.Xk l.prog w K mg base 1 "TreeFull" GX.c_TreeFull (sp_I1 "path" K) := ⟨x_TreeFull.oe, _, _, _, a3, i3, ok_TreeFull___init__ F3 T GX, b3, PySem.W.mg_of X G xa_TreeFull⟩
  have C__is_code : Kn.Cl l.prog w K mg base 1 "_is_code" (sp__is_code K) := Kn.cl_of (ok__is_code F4 T GX) F4 (PySem.W.mg_of X G a4) b4
  have C_is_text : Kn.Cl l.prog w K mg base 2 "is_text" (sp_is_text K) := Kn.cl_of (ok_is_text F5 T GX C__is_code) F5 (PySem.W.mg_of X G a5) b5
  have C_is_content : Kn.Cl l.prog w K mg base 3 "is_content" (sp_is_content K) := Kn.cl_of (ok_is_content F6 T GX C_is_text) F6 (PySem.W.mg_of X G a6) b6
  have C__is_name : Kn.Cl l.prog w K mg base 1 "_is_name" (sp__is_name K) := Kn.cl_of (ok__is_name F7 T GX) F7 (PySem.W.mg_of X G a7) b7
  have C_is_path : Kn.Cl l.prog w K mg base 2 "is_path" (sp_is_path K) := Kn.cl_of (ok_is_path F8 T GX C__is_name) F8 (PySem.W.mg_of X G a8) b8
  have C__is_persons : Kn.Cl l.prog w K mg base 1 "_is_persons" (sp__is_persons K) := Kn.cl_of (ok__is_persons F9 T GX) F9 (PySem.W.mg_of X G a9) b9
  have M_Tree : Kn.Mkr l.prog w K mg base 1 "Tree" C (sp_Tree___init__ C K) := ⟨_, _, _, ⟨mk, a10, i10, kc⟩, ok_Tree___init__ F10 T GX TC, PySem.W.mg_of X G aC, b10⟩
  have M_Tree_kind : Kn.Mt l.prog w K mg base 1 C "kind" (sp_Tree_kind C K) := ⟨_, _, _, TC.cl, ⟨a11, i11, k11⟩, ok_Tree_kind F11 T GX TC, b11⟩
  have M_Tree_read : Kn.Mt l.prog w K mg base 2 C "read" (sp_Tree_read C K) := ⟨_, _, _, TC.cl, ⟨a12, i12, k12⟩, ok_Tree_read F12 T GX TC M_Tree_kind, b12⟩
  have M_Tree_writer : Kn.Mt l.prog w K mg base 2 C "writer" (sp_Tree_writer C K) := ⟨_, _, _, TC.cl, ⟨a13, i13, k13⟩, ok_Tree_writer F13 T GX TC M_Tree_kind, b13⟩
  have M_Tree__has_room : Kn.Mt l.prog w K mg base 2 C "_has_room" (sp_Tree__has_room C K) := ⟨_, _, _, TC.cl, ⟨a14, i14, k14⟩, ok_Tree__has_room F14 T GX TC C__is_persons, b14⟩
  have M_Tree_paths : Kn.Mt l.prog w K mg base 1 C "paths" (sp_Tree_paths C K) := ⟨_, _, _, TC.cl, ⟨a15, i15, k15⟩, ok_Tree_paths F15 T GX TC, b15⟩
  have M_Tree_write : Kn.MtX l.prog w K mg base 4 C "write" (sp_Tree_write C GX) := ⟨_, _, _, TC.cl, ⟨a16, i16, k16⟩, ok_Tree_write F16 T GX TC C_is_path C_is_content M_Tree__has_room Z_InvalidPath Z_InvalidContent Z_TreeFull, b16⟩
  have M_Tree_link : Kn.MtX l.prog w K mg base 3 C "link" (sp_Tree_link C GX) := ⟨_, _, _, TC.cl, ⟨a17, i17, k17⟩, ok_Tree_link F17 T GX TC C_is_path M_Tree__has_room Z_InvalidPath Z_TreeFull, b17⟩
  have M_Tree_erase : Kn.MtX l.prog w K mg base 3 C "erase" (sp_Tree_erase C GX) := ⟨_, _, _, TC.cl, ⟨a18, i18, k18⟩, ok_Tree_erase F18 T GX TC Z_NoEntry, b18⟩
  have C__law_cell : Kn.Cl l.prog w K mg base 1 "_law_cell" (sp__law_cell K) := Kn.cl_of (ok__law_cell F19 T GX) F19 (PySem.W.mg_of X G a19) b19
  have C__law_personal : Kn.Cl l.prog w K mg base 5 "_law_personal" (sp__law_personal C GX) := Kn.cl_of (ok__law_personal F20 T GX TC M_Tree_write M_Tree_link) F20 (PySem.W.mg_of X G a20) b20
  exact ok_law F21 T GX TC C__law_cell C__law_personal M_Tree M_Tree_write M_Tree_read M_Tree_writer M_Tree_paths M_Tree_kind M_Tree_erase
end My
open PySem PySem.W PyProof.Rows
set_option maxHeartbeats 0 in
theorem PySem.Challenge.cw_kilnyard_k09_full_trees_holds : PySem.Challenge.rw_kilnyard_k09_full_trees.Holds := by
  w_on; o_law; k_head; (case hw => w_witness2)
  k_fill
  refine L2.walk_of (l := PySem.Challenge.rw_kilnyard_k09_full_trees) (n := 63) (k := 6) (x := "script") (CX := fun _ => L2.CX0) (sp := fun w => My.sp_law _) rfl (by decide) rfl ⟨rfl, by decide, by decide⟩ (fun w h Y => PySem.W.kIn_of Y) ?F (fun _ _ a ns hl _ hS => ⟨a, ns, rfl, ⟨hS, hl⟩, fun _ _ => rfl⟩) (fun _ _ _ _ _ h => h)
  case F =>
    intro w mg fa h KX G hmg
    refine' My.all_mk KX G hmg ?aC ?aB ?bsp ?brd ?bfi ?bhd ?bty ?xgs ?xtk ?xa_InvalidPath ?xL_InvalidPath ?xsa_InvalidPath ?xex_InvalidPath ?xty_InvalidPath ?xkc_InvalidPath ?xnpath_InvalidPath ?xga_InvalidPath ?xgg_InvalidPath ?xhd_InvalidPath ?xcl_InvalidPath ?xmr_InvalidPath ?xcc_InvalidPath ?xkB_InvalidPath ?xa_InvalidContent ?xL_InvalidContent ?xsa_InvalidContent ?xex_InvalidContent ?xty_InvalidContent ?xkc_InvalidContent ?xnpath_InvalidContent ?xga_InvalidContent ?xgg_InvalidContent ?xhd_InvalidContent ?xcl_InvalidContent ?xmr_InvalidContent ?xcc_InvalidContent ?xkB_InvalidContent ?xa_NoEntry ?xL_NoEntry ?xsa_NoEntry ?xex_NoEntry ?xty_NoEntry ?xkc_NoEntry ?xnpath_NoEntry ?xga_NoEntry ?xgg_NoEntry ?xhd_NoEntry ?xcl_NoEntry ?xmr_NoEntry ?xcc_NoEntry ?xkB_NoEntry ?xa_TreeFull ?xL_TreeFull ?xsa_TreeFull ?xex_TreeFull ?xty_TreeFull ?xkc_TreeFull ?xnpath_TreeFull ?xga_TreeFull ?xgg_TreeFull ?xhd_TreeFull ?xcl_TreeFull ?xmr_TreeFull ?xcc_TreeFull ?xkB_TreeFull ?xp_TreeFull_NoEntry ?a0 ?i0 ?l0 ?c0 ?k0 ?a1 ?i1 ?l1 ?c1 ?k1 ?a2 ?i2 ?l2 ?c2 ?k2 ?a3 ?i3 ?l3 ?c3 ?k3 ?a4 ?l4 ?c4 ?k4 ?a5 ?l5 ?c5 ?k5 ?a6 ?l6 ?c6 ?k6 ?a7 ?l7 ?c7 ?k7 ?a8 ?l8 ?c8 ?k8 ?a9 ?l9 ?c9 ?k9 ?a10 ?i10 ?l10 ?c10 ?k10 ?a11 ?i11 ?l11 ?c11 ?k11 ?a12 ?i12 ?l12 ?c12 ?k12 ?a13 ?i13 ?l13 ?c13 ?k13 ?a14 ?i14 ?l14 ?c14 ?k14 ?a15 ?i15 ?l15 ?c15 ?k15 ?a16 ?i16 ?l16 ?c16 ?k16 ?a17 ?i17 ?l17 ?c17 ?k17 ?a18 ?i18 ?l18 ?c18 ?k18 ?a19 ?l19 ?c19 ?k19 ?a20 ?l20 ?c20 ?k20 ?a21 ?l21 ?c21 ?k21 ?pg ?hdi ?po ?sa ?mk ?kc ?na_entries ?zb_abs ?zb_all ?zb_int ?zb_isinstance ?zb_len ?zb_ord ?zb_range ?zb_sorted ?zb_str ?zc_CONTENT_LENGTH ?zc_NEWLINE ?zc_SPACE ?zc_PERCENT ?zc_TILDE ?zc_MOST_NAMES ?zc_NAME_LENGTH ?zc_NAME_SIGNS ?zc_MOST_PERSONS_ENTRIES
    (case aC => k_is)
    (case aB => k_is)
    (case bsp => k_is)
    (case brd => k_is)
    (case bfi => k_is)
    (case bhd => k_is)
    (case bty => k_is)
    (case xgs => k_is)
    (case xtk => k_is)
    (case xa_InvalidPath => k_is)
    (case xL_InvalidPath => k_is)
    (case xsa_InvalidPath => k_is)
    (case xex_InvalidPath => k_is)
    (case xty_InvalidPath => k_is)
    (case xkc_InvalidPath => k_is)
    (case xnpath_InvalidPath => k_is)
    (case xga_InvalidPath => k_is)
    (case xgg_InvalidPath => k_is)
    (case xhd_InvalidPath => k_is)
    (case xcl_InvalidPath => k_is)
    (case xmr_InvalidPath => k_is)
    (case xcc_InvalidPath => first | rfl | k_is)
    (case xkB_InvalidPath => k_is)
    (case xa_InvalidContent => k_is)
    (case xL_InvalidContent => k_is)
    (case xsa_InvalidContent => k_is)
    (case xex_InvalidContent => k_is)
    (case xty_InvalidContent => k_is)
    (case xkc_InvalidContent => k_is)
    (case xnpath_InvalidContent => k_is)
    (case xga_InvalidContent => k_is)
    (case xgg_InvalidContent => k_is)
    (case xhd_InvalidContent => k_is)
    (case xcl_InvalidContent => k_is)
    (case xmr_InvalidContent => k_is)
    (case xcc_InvalidContent => first | rfl | k_is)
    (case xkB_InvalidContent => k_is)
    (case xa_NoEntry => k_is)
    (case xL_NoEntry => k_is)
    (case xsa_NoEntry => k_is)
    (case xex_NoEntry => k_is)
    (case xty_NoEntry => k_is)
    (case xkc_NoEntry => k_is)
    (case xnpath_NoEntry => k_is)
    (case xga_NoEntry => k_is)
    (case xgg_NoEntry => k_is)
    (case xhd_NoEntry => k_is)
    (case xcl_NoEntry => k_is)
    (case xmr_NoEntry => k_is)
    (case xcc_NoEntry => first | rfl | k_is)
    (case xkB_NoEntry => k_is)
    (case xa_TreeFull => k_is)
    (case xL_TreeFull => k_is)
    (case xsa_TreeFull => k_is)
    (case xex_TreeFull => k_is)
    (case xty_TreeFull => k_is)
    (case xkc_TreeFull => k_is)
    (case xnpath_TreeFull => k_is)
    (case xga_TreeFull => k_is)
    (case xgg_TreeFull => k_is)
    (case xhd_TreeFull => k_is)
    (case xcl_TreeFull => k_is)
    (case xmr_TreeFull => k_is)
    (case xcc_TreeFull => first | rfl | k_is)
    (case xkB_TreeFull => k_is)
    (case xp_TreeFull_NoEntry => k_is)
    (case a0 => k_is)
    (case i0 => k_is)
    (case l0 => k_is)
    (case c0 => k_is)
    (case k0 => k_is)
    (case a1 => k_is)
    (case i1 => k_is)
    (case l1 => k_is)
    (case c1 => k_is)
    (case k1 => k_is)
    (case a2 => k_is)
    (case i2 => k_is)
    (case l2 => k_is)
    (case c2 => k_is)
    (case k2 => k_is)
    (case a3 => k_is)
    (case i3 => k_is)
    (case l3 => k_is)
    (case c3 => k_is)
    (case k3 => k_is)
    (case a4 => k_is)
    (case l4 => k_is)
    (case c4 => k_is)
    (case k4 => k_is)
    (case a5 => k_is)
    (case l5 => k_is)
    (case c5 => k_is)
    (case k5 => k_is)
    (case a6 => k_is)
    (case l6 => k_is)
    (case c6 => k_is)
    (case k6 => k_is)
    (case a7 => k_is)
    (case l7 => k_is)
    (case c7 => k_is)
    (case k7 => k_is)
    (case a8 => k_is)
    (case l8 => k_is)
    (case c8 => k_is)
    (case k8 => k_is)
    (case a9 => k_is)
    (case l9 => k_is)
    (case c9 => k_is)
    (case k9 => k_is)
    (case a10 => k_is)
    (case i10 => k_is)
    (case l10 => k_is)
    (case c10 => k_is)
    (case k10 => k_is)
    (case a11 => k_is)
    (case i11 => k_is)
    (case l11 => k_is)
    (case c11 => k_is)
    (case k11 => k_is)
    (case a12 => k_is)
    (case i12 => k_is)
    (case l12 => k_is)
    (case c12 => k_is)
    (case k12 => k_is)
    (case a13 => k_is)
    (case i13 => k_is)
    (case l13 => k_is)
    (case c13 => k_is)
    (case k13 => k_is)
    (case a14 => k_is)
    (case i14 => k_is)
    (case l14 => k_is)
    (case c14 => k_is)
    (case k14 => k_is)
    (case a15 => k_is)
    (case i15 => k_is)
    (case l15 => k_is)
    (case c15 => k_is)
    (case k15 => k_is)
    (case a16 => k_is)
    (case i16 => k_is)
    (case l16 => k_is)
    (case c16 => k_is)
    (case k16 => k_is)
    (case a17 => k_is)
    (case i17 => k_is)
    (case l17 => k_is)
    (case c17 => k_is)
    (case k17 => k_is)
    (case a18 => k_is)
    (case i18 => k_is)
    (case l18 => k_is)
    (case c18 => k_is)
    (case k18 => k_is)
    (case a19 => k_is)
    (case l19 => k_is)
    (case c19 => k_is)
    (case k19 => k_is)
    (case a20 => k_is)
    (case l20 => k_is)
    (case c20 => k_is)
    (case k20 => k_is)
    (case a21 => k_is)
    (case l21 => k_is)
    (case c21 => k_is)
    (case k21 => k_is)
    (case pg => k_is)
    (case hdi => k_is)
    (case po => k_is)
    (case sa => k_is)
    (case mk => k_is)
    (case kc => k_is)
    (case na_entries => k_is)
    (case zb_abs => k_is)
    (case zb_all => k_is)
    (case zb_int => k_is)
    (case zb_isinstance => k_is)
    (case zb_len => k_is)
    (case zb_ord => k_is)
    (case zb_range => k_is)
    (case zb_sorted => k_is)
    (case zb_str => k_is)
    (case zc_CONTENT_LENGTH => k_is)
    (case zc_NEWLINE => k_is)
    (case zc_SPACE => k_is)
    (case zc_PERCENT => k_is)
    (case zc_TILDE => k_is)
    (case zc_MOST_NAMES => k_is)
    (case zc_NAME_LENGTH => k_is)
    (case zc_NAME_SIGNS => k_is)
    (case zc_MOST_PERSONS_ENTRIES => k_is)

