import PyProof.Rows.All
import Wide.All
import OpenK.AllK
import Wide.FinOn
import HandS.Evl
import HandS.Codes
import HandS.Iter
import HandS.Dict
import HandS.Text
import HandS.Words
import HandS.Walk
import HandS.IsInst
import HandS.Steps
import HandS.More
import HandS.ReplaceList
import HandS.ReplaceLit
import HandS.Replace
import HandS.ExcInit
import HandS.ExcIs
import HandS.ExcField
import HandS.IntHex
import HandS.FStr
import KE.KExcIs
import KE.KxField
import HandS.WordsExc
import HandS.Defaults
import HandS.ReplaceDef
import HandS.TryMany
import HandS.WordsDict
import HandS.StrMore
import PyProof.StrOps2
import PyProof.Rows.SortShellAny
import HandS.Strs
import HandS.Style
import HandS.Set
import HandS.SetTxt0
import HandS.SortKw
import HandS.DictComp
import HandS.DeepEq
import KE.DataMinMax
import KE.KTryMore
import HandS.TryOnly
import HandS.CallLocal
import KE.GoesEnumKw
import PySem.Challenge.RW_kilnyard_k12_written_expressions
set_option Elab.async false
set_option linter.all false
set_option maxRecDepth 100000
set_option maxHeartbeats 4000000
/-! Kn: what all our proofs share: named relations, values, comprehensions, promises of pure defs. -/
namespace Kn
open PySem PySem.Spec PyProof.Rows L2 Evl SX

/-! ### relations with a name -/
def rAddStr : R2 := fun x y H Q => ∃ i j, x = .str i ∧ y = .str j ∧ i.length + j.length ≤ sizeLine ∧ Q (.str (i ++ j)) H
theorem op_addS {X : Cx} : OpR X (binaryOp .Add) rAddStr := op_add_str
def rLenStr : List V → Hp → VK → Prop := fun xs H Q => ∃ z, xs = [.str z] ∧ z.length ≤ sizeLine ∧ Q (.int z.length) H
theorem cr_lenStr {X : Cx} : CallR X (.builtin "len") rLenStr := call_len_str
theorem cr_lenSeq {X : Cx} : CallR X (.builtin "len") (rLenS X.K) := call_len_seq
def rOrd : List V → Hp → VK → Prop := fun xs H Q => ∃ x, xs = [.str x] ∧ x.length = 1 ∧ Q (.int (x.cps.getD 0 0 : Nat)) H
theorem cr_ord {X : Cx} : CallR X (.builtin "ord") rOrd := call_ord
def rInt1 : List V → Hp → VK → Prop := fun xs H Q => (∃ i, xs = [.int i] ∧ Q (.int i) H) ∨ ∃ k, xs = [.bl k] ∧ Q (.int (if k then 1 else 0)) H
theorem cr_int1 {X : Cx} : CallR X (.type "int") rInt1 := call_int1
def rAbs : List V → Hp → VK → Prop := fun xs H Q => ∃ i, xs = [.int i] ∧ Q (.int (if i < 0 then -i else i)) H
theorem cr_abs {X : Cx} : CallR X (.builtin "abs") rAbs := call_abs
def rJoin (K : PySem.W.Frag) : V → List V → Hp → VK → Prop := fun x xs H Q => ∃ a p, ∃ ys : List Str, x = .str a ∧ xs = [.ref p] ∧ (SqL K H p (ys.map V.str) ∨ SqT K H p (ys.map V.str)) ∧ (ys.map (·.length)).sum + ys.length * a.length ≤ 16777216 ∧ Q (.str (Txt.join a ys)) H
theorem pe_joinN {X : Cx} {e : Expr} {to te : TE} (h : PE X e (tM1 (fun x xs H Q => ∃ a p, ∃ ys : List Str, x = .str a ∧ xs = [.ref p] ∧ (SqL X.K H p (ys.map V.str) ∨ SqT X.K H p (ys.map V.str)) ∧ (ys.map (·.length)).sum + ys.length * a.length ≤ 16777216 ∧ Q (.str (Txt.join a ys)) H) to te)) : PE X e (tM1 (rJoin X.K) to te) := h
theorem cr_isi {X : Cx} : CallR X (.builtin "isinstance") (rIsi X.K) := call_isi

/-! ### values -/
section
variable {K : PySem.W.Frag} {σ : L2.St} {H H' : Hp} {ta tb te tc : TE} {t u : TT} {x y z v : V}
theorem val_abs (i : Int) : (if i < 0 then -i else i) = (i.natAbs : Int) := by split <;> omega
theorem rc_abs {i : Int} : RC rAbs [.int i] H (.int (i.natAbs : Int)) := fun H1 _ _ q => ⟨i, rfl, by rw [val_abs]; exact q H1 (Ex.refl H1)⟩
theorem rc_int {i : Int} : RC rInt1 [.int i] H (.int i) := fun H1 _ _ q => .inl ⟨i, rfl, q H1 (Ex.refl H1)⟩
theorem rc_intB {b : Bool} : RC rInt1 [.bl b] H (.int (if b then 1 else 0)) := fun H1 _ _ q => .inr ⟨b, rfl, q H1 (Ex.refl H1)⟩
theorem rc_ord {c : Nat} : RC rOrd [.str (S [c])] H (.int (c : Int)) := fun H1 _ _ q => ⟨S [c], rfl, rfl, q H1 (Ex.refl H1)⟩
theorem rc_lenS {l : List Nat} (h : l.length ≤ 100000) : RC rLenStr [.str (S l)] H (.int (l.length : Int)) := fun H1 _ _ q => ⟨S l, rfl, by rw [S_len]; exact sz_of h, by rw [S_len]; exact q H1 (Ex.refl H1)⟩
theorem rv_addS {a b : List Nat} (h : a.length + b.length ≤ 100000) : RV rAddStr (.str (S a)) (.str (S b)) H (.str (S (a ++ b))) := fun H1 _ _ q =>
  ⟨S a, S b, rfl, rfl, by rw [S_len, S_len]; exact sz_of h, by rw [S_cat]; exact q H1 (Ex.refl H1)⟩
theorem rv_mod {i j : Int} (h : 0 < j) : RV (rI (fun _ j => 0 < j) fun i j => .int (i % j)) (.int i) (.int j) H (.int (i % j)) := rv_I h
theorem rv_fdiv {i j : Int} (h : CDiv i j) : RV (rI CDiv fun i j => .int (i / j)) (.int i) (.int j) H (.int (i / j)) := rv_I h
theorem rv_mul {i j : Int} (h : CMul i j) : RV (rI CMul fun i j => .int (i * j)) (.int i) (.int j) H (.int (i * j)) := rv_I h
theorem S1 (x : Str) {l : List Nat} (h : x.cps.toList = l) : x = S l := TL.ext_tl h
theorem ev_chain {r r' : R2} {k b : Bool} (ha : Ev ta σ H x) (hb : Ev tb σ H y) (hr : RV r x y H (.bl k)) (hc : Ev tc σ H z) (hr' : RV r' y z H (.bl b)) : Ev (tChain r r' ta tb tc) σ H (.bl (k && b)) := fun H1 e Q q =>
  ha H1 e _ fun H2 e2 => hb H2 (e.trans e2) _ fun H3 e3 => hr H3 ((e.trans e2).trans e3) _ fun H4 e4 => ⟨k, rfl, by
    have e14 := (e2.trans e3).trans e4
    cases k with
    | true =>
      show tc σ H4 fun w' H5 => r' y w' H5 Q
      exact hc H4 (e.trans e14) _ fun H5 e5 => hr' H5 ((e.trans e14).trans e5) Q fun H6 e6 => q H6 ((e14.trans e5).trans e6)
    | false =>
      show Q (.bl false) H4
      exact q H4 e14⟩
theorem ev_idxS {l : List Nat} {i : Int} {c : Nat} (ha : Ev ta σ H (.str (S l))) (hb : Ev tb σ H (.int i)) (h : l.length ≤ 100000) (hat : atI l i = some c) : Ev (tOp rIxS ta tb) σ H (.str (S [c])) := ev_op ha hb (rv_ixS (w := S l) (by rw [S_len]; exact h) hat)
theorem atI_nat' {α : Type} {xs : List α} {i : Int} {j : Nat} {v : α} (hi : i = (j : Int)) (h : xs[j]? = some v) : atI xs i = some v := by
  subst hi
  exact atI_nat h
theorem ev_join {s : List Nat} {ys : List (List Nat)} (hs : Ev ta σ H (.str (S s))) (hl : EvL tb σ H (ys.map fun l => V.str (S l))) (hz : (ys.map (·.length)).sum + ys.length * s.length ≤ 16777216) : Ev (tM1 (rJoin K) ta tb) σ H (.str (S (TL.joinL s ys))) := fun H1 e Q q =>
  hs H1 e _ fun H2 e2 => ⟨⟨_, rfl⟩, hl H2 (e.trans e2) _ fun p H3 _ e3 hp => ⟨S s, p, ys.map S, rfl, rfl, .inl (.inl (.inl (by rw [List.map_map]; exact hp))), by
    rw [SX.lens, List.length_map, S_len]
    exact hz, by
    rw [SX.join_S]
    exact q H3 (e2.trans e3)⟩⟩
theorem ev_slS {to tp : TO} {l : List Nat} {lo hi : Option Int} (h : Ev te σ H (.str (S l))) (h1 : EvO to σ H lo) (h2 : EvO tp σ H hi) (hz : l.length ≤ 100000) : Ev (tSl rSlS te to tp) σ H (.str (cutS (S l) lo hi)) := fun H1 e _ q =>
  h H1 e _ fun H2 e2 => h1 H2 (e.trans e2) _ fun H3 e3 => h2 H3 ((e.trans e2).trans e3) _ fun H4 e4 => ⟨S l, rfl, by rw [S_len]; exact sz_of hz, q H4 ((e2.trans e3).trans e4)⟩
theorem ev_isi {T : String} {c : String} {b : Bool} (ha : Ev ta σ H x) (ht : TyX K H x (.type T)) (hb : kitB T c = some b) (hm : ∀ H1, Ex H H1 → TyX K H1 x (.type T)) : Ev (tCB (rIsi K) (tCons ta (tCons (tC (.ty c)) tNil))) σ H (.bl b) := fun H1 e Q q =>
  ha H1 e _ fun H2 e2 => ⟨x, .ty c, .type T, .type c, b, rfl, .ty c, hm H2 (e.trans e2), kit_ty hb, q H2 e2⟩
theorem ev_all {τ : Type} {xs : List τ} {p : τ → Bool} (ha : EvL ta σ H (xs.map fun a => V.bl (p a))) : Ev (tCB (rAll K) (tCons ta tNil)) σ H (.bl (xs.all p)) := fun H1 e Q q =>
  ha H1 e _ fun a H2 _ e2 h2 => ⟨a, xs.map p, rfl, sq_of (by rw [List.map_map]; exact h2), by
    have hh : (xs.map p).all id = xs.all p := by rw [List.all_map]; rfl
    rw [hh]
    exact q H2 e2⟩

/-! ### comprehensions: no test, a new list of what each item gives -/
theorem given_all {α : Type} {xs : List α} {f : α → V} {d : V} : given xs.length (fun _ => true) (fun i => (xs[i]?.map f).getD d) = xs.map f := by
  unfold given
  rw [List.filter_eq_self.mpr (fun _ _ => rfl)]
  refine List.ext_getElem (by simp) fun i h1 h2 => ?_
  simp at h1 h2
  simp [h2]
theorem et_yes {H : Hp} : EvT tYes σ H true := fun H1 _ _ q => q H1 (Ex.refl H1)
theorem el_lcM {τ : Type} {a : Addr} {ns : List τ} {g f : τ → V} {tl : TE} {j : Nat} {vs : List Nat} (h : Ev tl σ H (.ref a)) (hx : SqL K H a (ns.map g)) (hz : ns.length ≤ 40000) (hw : ∀ x, wipe ((wipe σ vs).set j (some x)) vs = wipe σ vs)
    (he : ∀ n ∈ ns, ∀ H1, Ex H H1 → Ev te ((wipe σ vs).set j (some (g n))) H1 (f n)) : EvL (tLc (iList K tl) (gName j) tYes te vs) σ H (ns.map f) := by
  have k := el_lcL (K := K) (te := te) (t := tYes) (j := j) (vs := vs) (fun _ => true) (fun i => (ns[i]?.map f).getD .non) h hx (by rw [List.length_map]; exact hz) hw (fun _ _ H1 _ _ => et_yes) (fun i x H1 e hi _ => by
    rw [List.getElem?_map] at hi
    cases hn : ns[i]? with
    | none => rw [hn] at hi; cases hi
    | some n =>
      rw [hn] at hi
      cases Option.some.inj hi
      exact he n (List.mem_of_getElem? hn) H1 e)
  rw [List.length_map, given_all] at k
  exact k
theorem el_lcN {τ : Type} {ns : List τ} {g f : τ → V} {tl : TE} {j : Nat} {vs : List Nat} (h : EvL tl σ H (ns.map g)) (hz : ns.length ≤ 40000) (hw : ∀ x, wipe ((wipe σ vs).set j (some x)) vs = wipe σ vs)
    (he : ∀ n ∈ ns, ∀ H1, Ex H H1 → Ev te ((wipe σ vs).set j (some (g n))) H1 (f n)) : EvL (tLc (iList K tl) (gName j) tYes te vs) σ H (ns.map f) := by
  have k := el_lcNL (K := K) (te := te) (t := tYes) (j := j) (vs := vs) (fun _ => true) (fun i => (ns[i]?.map f).getD .non) h (by rw [List.length_map]; exact hz) hw (fun _ _ H1 _ _ => et_yes) (fun i x H1 e hi _ => by
    rw [List.getElem?_map] at hi
    cases hn : ns[i]? with
    | none => rw [hn] at hi; cases hi
    | some n =>
      rw [hn] at hi
      cases Option.some.inj hi
      exact he n (List.mem_of_getElem? hn) H1 e)
  rw [List.length_map, given_all] at k
  exact k
theorem el_lcR {n : Int} {f : Nat → V} {ta : TA} {j : Nat} {vs : List Nat} (h : EvA ta σ H [.int n]) (hn : 0 ≤ n ∧ n ≤ 40000) (hw : ∀ x, wipe ((wipe σ vs).set j (some x)) vs = wipe σ vs)
    (he : ∀ (i : Nat) H1, Ex H H1 → (i : Int) < n → Ev te ((wipe σ vs).set j (some (.int (i : Int)))) H1 (f i)) : EvL (tLc (iRng1 ta) (gName j) tYes te vs) σ H ((List.range n.toNat).map f) := by
  have k := el_lcR1 (te := te) (t := tYes) (j := j) (vs := vs) (fun _ => true) f h hn hw (fun _ H1 _ _ => et_yes) (fun i H1 e hi _ => he i H1 e hi)
  unfold given at k
  rw [List.filter_eq_self.mpr (fun _ _ => rfl)] at k
  exact k
/-- over the signs of a text -/
theorem el_lcS {l : List Nat} {f : Nat → V} {ts : TE} {j : Nat} {vs : List Nat} (h : Ev ts σ H (.str (S l))) (hz : l.length ≤ 40000) (hw : ∀ x, wipe ((wipe σ vs).set j (some x)) vs = wipe σ vs)
    (he : ∀ c ∈ l, ∀ H1, Ex H H1 → Ev te ((wipe σ vs).set j (some (.str (S [c])))) H1 (f c)) : EvL (tLc (iStr ts) (gName j) tYes te vs) σ H (l.map f) := fun H0 e Q q => h H0 e _ fun H1 e1 => ⟨S l, rfl, fun Dl hD => by
  have hl : (S l).cps.size = l.length := by simp [S]
  refine lc_it walk_str (Cw H1 (fun _ => true) (fun i => (l[i]?.map f).getD .non) Dl) ⟨hD, Ex.new hD, upd_same⟩ (fun _ _ _ _ => trivial) (fun i x H2 H3 hi p y => ?_) (fun H2 p => ?_)
  · obtain ⟨rfl, c, hc, rfl⟩ := y
    have hc' : l[i]? = some c := by simpa [S] using hc
    refine ⟨hw _, cw_turn p (by rw [hl] at hi; omega) et_yes (fun _ => ?_)⟩
    rw [hc']
    exact he c (List.mem_of_getElem? hc') H1 (e.trans e1)
  · rw [hl] at p
    have := p.2.2
    rw [given_all] at this
    exact q Dl H2 (fresh_back e1 p.1) (e1.trans p.2.1) this⟩
end

/-! ### promises of pure defs: a value, a new list -/
def Rt (H : Hp) (v : V) (Q : VK) : Prop := ∀ H1, Ex H H1 → Q v H1
def Rl (H : Hp) (xs : List V) (Q : VK) : Prop := ∀ p H1, H p = none → Ex H H1 → H1 p = some (.lst xs) → Q (.ref p) H1
def sp1 {α : Type} (A : α → List V) (pre : α → Hp → Prop) (val : α → V) : Sp := fun vs H Q _ => ∃ a, vs = A a ∧ pre a H ∧ Rt H (val a) Q
def sp2 {α β : Type} (A : α → β → List V) (pre : α → β → Hp → Prop) (val : α → β → V) : Sp := fun vs H Q _ => ∃ a b, vs = A a b ∧ pre a b H ∧ Rt H (val a b) Q
def sp3 {α β γ : Type} (A : α → β → γ → List V) (pre : α → β → γ → Hp → Prop) (val : α → β → γ → V) : Sp := fun vs H Q _ => ∃ a b c, vs = A a b c ∧ pre a b c H ∧ Rt H (val a b c) Q
def sl1 {α : Type} (A : α → List V) (pre : α → Hp → Prop) (val : α → List V) : Sp := fun vs H Q _ => ∃ a, vs = A a ∧ pre a H ∧ Rl H (val a) Q
def sl2 {α β : Type} (A : α → β → List V) (pre : α → β → Hp → Prop) (val : α → β → List V) : Sp := fun vs H Q _ => ∃ a b, vs = A a b ∧ pre a b H ∧ Rl H (val a b) Q
def sl3 {α β γ : Type} (A : α → β → γ → List V) (pre : α → β → γ → Hp → Prop) (val : α → β → γ → List V) : Sp := fun vs H Q _ => ∃ a b c, vs = A a b c ∧ pre a b c H ∧ Rl H (val a b c) Q
section
variable {K : PySem.W.Frag} {σ : L2.St} {H H' : Hp} {ta : TA} {E : XK} {α β γ : Type}
theorem ev_c1 {A : α → List V} {pre : α → Hp → Prop} {val : α → V} {a : α} (h : EvA ta σ H (A a)) (hp : ∀ H1, Ex H H1 → pre a H1) : Ev (tCall (sp1 A pre val) [] E ta) σ H (val a) := fun H1 e Q q =>
  h H1 e _ fun H2 e2 => ⟨a, List.append_nil _, hp H2 (e.trans e2), fun H3 e3 => q H3 (e2.trans e3)⟩
theorem ev_c2 {A : α → β → List V} {pre : α → β → Hp → Prop} {val : α → β → V} {a : α} {b : β} (h : EvA ta σ H (A a b)) (hp : ∀ H1, Ex H H1 → pre a b H1) : Ev (tCall (sp2 A pre val) [] E ta) σ H (val a b) := fun H1 e Q q =>
  h H1 e _ fun H2 e2 => ⟨a, b, List.append_nil _, hp H2 (e.trans e2), fun H3 e3 => q H3 (e2.trans e3)⟩
theorem ev_c3 {A : α → β → γ → List V} {pre : α → β → γ → Hp → Prop} {val : α → β → γ → V} {a : α} {b : β} {c : γ} (h : EvA ta σ H (A a b c)) (hp : ∀ H1, Ex H H1 → pre a b c H1) : Ev (tCall (sp3 A pre val) [] E ta) σ H (val a b c) := fun H1 e Q q =>
  h H1 e _ fun H2 e2 => ⟨a, b, c, List.append_nil _, hp H2 (e.trans e2), fun H3 e3 => q H3 (e2.trans e3)⟩
theorem el_c1 {A : α → List V} {pre : α → Hp → Prop} {val : α → List V} {a : α} (h : EvA ta σ H (A a)) (hp : ∀ H1, Ex H H1 → pre a H1) : EvL (tCall (sl1 A pre val) [] E ta) σ H (val a) := fun H1 e Q q =>
  h H1 e _ fun H2 e2 => ⟨a, List.append_nil _, hp H2 (e.trans e2), fun p H3 hp e3 h3 => q p H3 (fresh_back e2 hp) (e2.trans e3) h3⟩
theorem el_c2 {A : α → β → List V} {pre : α → β → Hp → Prop} {val : α → β → List V} {a : α} {b : β} (h : EvA ta σ H (A a b)) (hp : ∀ H1, Ex H H1 → pre a b H1) : EvL (tCall (sl2 A pre val) [] E ta) σ H (val a b) := fun H1 e Q q =>
  h H1 e _ fun H2 e2 => ⟨a, b, List.append_nil _, hp H2 (e.trans e2), fun p H3 hp e3 h3 => q p H3 (fresh_back e2 hp) (e2.trans e3) h3⟩
theorem el_c3 {A : α → β → γ → List V} {pre : α → β → γ → Hp → Prop} {val : α → β → γ → List V} {a : α} {b : β} {c : γ} (h : EvA ta σ H (A a b c)) (hp : ∀ H1, Ex H H1 → pre a b c H1) : EvL (tCall (sl3 A pre val) [] E ta) σ H (val a b c) := fun H1 e Q q =>
  h H1 e _ fun H2 e2 => ⟨a, b, c, List.append_nil _, hp H2 (e.trans e2), fun p H3 hp e3 h3 => q p H3 (fresh_back e2 hp) (e2.trans e3) h3⟩
/-- a call one of whose arguments is a new list: f([..]) -/
theorem ev_c1L {τ : Type} {te : TE} {A : Addr → List τ → List V} {pre : Addr → List τ → Hp → Prop} {val : Addr → List τ → V} {v : V} {xs : List V} (h : EvL te σ H xs) (ns : List τ) (hA : ∀ p, A p ns = [.ref p]) (hp : ∀ p H1, Ex H H1 → H1 p = some (.lst xs) → pre p ns H1) (hv : ∀ p, val p ns = v) :
    Ev (tCall (sp2 A pre val) [] E (tCons te tNil)) σ H v := fun H1 e Q q =>
  h H1 e _ fun p H2 hn e2 h2 => ⟨p, ns, by rw [hA]; rfl, hp p H2 (e.trans e2) h2, fun H3 e3 => by
    rw [hv]
    exact q H3 (e2.trans e3)⟩
end

/-! ### a def that may be called by its name -/
structure Cl (P : Program) (w : World) (K : PySem.W.Frag) (mg : Str → Option Value) (base : Heap) (k : Nat) (x : Str) (sp : Sp) : Prop where
  ex : ∃ (f : Addr) (fd : FuncData) (ps : List Str), FnOk P w K mg base CX0 k f fd ps sp ∧ mg x = some (.ref f) ∧ PySem.W.keepIn K (.ref f) = true ∧ Binds K fd ps []
section
variable {P : Program} {w : World} {K : PySem.W.Frag} {mg : Str → Option Value} {base : Heap}
theorem cl_of {k : Nat} {x : Str} {sp : Sp} {st : Stmt} {f : Addr} {fd : FuncData} {ps : List Str} (ok : FnOk P w K mg base CX0 k f fd ps sp) (F : Fun K x x st f fd) (g : mg x = some (.ref f)) (b : Binds K fd ps []) : Cl P w K mg base k x sp := ⟨f, fd, ps, ok, g, F.kp, b⟩
variable {X : Cx} {k j : Nat} {x : Str} {sp : Sp} {p pos : Pos} {e : Expr} {es : List Expr} {t : TA}
theorem pe_cl (c : Cl X.prog X.w X.K X.mg X.base k x sp) (hr : Room j X.A) (hk : k ≤ j) (hg : Gl X x) (ha : PA X (e :: es) t)
    (hdb : (x == ("__debug__" : Str)) = false := by decide) (he : starEach (e :: es) X.env = (false, eval e X.env) :: starEach es X.env := by rfl) (hpl : (backTo pos (starEach es X.env)).any (·.1) = false := by rfl) :
    PE X (.Call (.Name x p) (e :: es) [] pos) (tCall sp [] E0 t) := by
  obtain ⟨f, fd, ps, F, hm, kp, b⟩ := c.ex
  exact pe_call F (hr.mono hk) hg hm kp b .nil pass0 ha hdb he hpl
theorem pe_cl0 (c : Cl X.prog X.w X.K X.mg X.base k x sp) (hr : Room j X.A) (hk : k ≤ j) (hg : Gl X x)
    (hdb : (x == ("__debug__" : Str)) = false := by decide) :
    PE X (.Call (.Name x p) [] [] pos) (tCall sp [] E0 tNil) := by
  obtain ⟨f, fd, ps, F, hm, kp, b⟩ := c.ex
  exact pe_call0 F (hr.mono hk) hg hm kp b .nil pass0 hdb
end
end Kn
/-! ### values, step by step -/
namespace Kn
open PySem PySem.Spec PyProof.Rows L2 Evl SX
section
variable {H : Hp}
theorem rv_eqI {a b : Int} : RV rEq (.int a) (.int b) H (.bl (decide (a = b))) := fun H1 _ _ q => ⟨rfl, by
  have e : decide (V.int a = V.int b) = decide (a = b) := by simp
  rw [e]
  exact q H1 (Ex.refl H1)⟩
theorem rv_neI {a b : Int} : RV rNe (.int a) (.int b) H (.bl (!decide (a = b))) := fun H1 _ _ q => ⟨rfl, by
  have e : decide (V.int a = V.int b) = decide (a = b) := by simp
  rw [e]
  exact q H1 (Ex.refl H1)⟩
theorem dec_S {a b : List Nat} : decide (V.str (S a) = V.str (S b)) = decide (a = b) := by
  by_cases h : a = b
  · subst h
    simp
  · rw [decide_eq_false h, decide_eq_false (fun e => h (S_inj (V.str.inj e)))]
theorem rv_eqS {a b : List Nat} : RV rEq (.str (S a)) (.str (S b)) H (.bl (decide (a = b))) := fun H1 _ _ q => ⟨rfl, by
  rw [dec_S]
  exact q H1 (Ex.refl H1)⟩
theorem rv_neS {a b : List Nat} : RV rNe (.str (S a)) (.str (S b)) H (.bl (!decide (a = b))) := fun H1 _ _ q => ⟨rfl, by
  rw [dec_S]
  exact q H1 (Ex.refl H1)⟩
theorem rv_le {a b : Int} : RV (rI0 fun i j => .bl (decide (i ≤ j))) (.int a) (.int b) H (.bl (decide (a ≤ b))) := rv_I0
theorem rv_lt {a b : Int} : RV (rI0 fun i j => .bl (decide (i < j))) (.int a) (.int b) H (.bl (decide (a < b))) := rv_I0
theorem rv_inS {c : Nat} {l : List Nat} : RV rInS (.str (S [c])) (.str (S l)) H (.bl (decide (c ∈ l))) := fun H1 _ _ q => ⟨c, S l, rfl, rfl, q H1 (Ex.refl H1)⟩
theorem rv_ninS {c : Nat} {l : List Nat} : RV rNotInS (.str (S [c])) (.str (S l)) H (.bl (!decide (c ∈ l))) := fun H1 _ _ q => ⟨c, S l, rfl, rfl, q H1 (Ex.refl H1)⟩
end
end Kn
/-! ### lists cut, texts cut, constants -/
namespace Kn
open PySem PySem.Spec PyProof.Rows L2 Evl SX
theorem cut_nat {α : Type} (xs : List α) (a b : Nat) : (xs.drop (min a xs.length)).take (min b xs.length - min a xs.length) = (xs.drop a).take (b - a) := by
  by_cases h : a ≤ xs.length
  · have e : min a xs.length = a := Nat.min_eq_left h
    rw [e, List.take_eq_take_iff, List.length_drop]
    omega
  · have e : xs.drop a = [] := List.drop_of_length_le (by omega)
    have e2 : xs.drop (min a xs.length) = [] := List.drop_of_length_le (by omega)
    rw [e, e2, List.take_nil, List.take_nil]
theorem cutV_nat {xs : List V} (a b : Nat) : cutV xs (some (a : Int)) (some (b : Int)) = (xs.drop a).take (b - a) := by
  unfold cutV
  rw [HT.sIx_nat, HT.sIx_nat]
  exact cut_nat xs a b
theorem cutV_map {τ : Type} {g : τ → V} {ns : List τ} {i j : Int} (a b : Nat) (hi : i = (a : Int)) (hj : j = (b : Int)) : cutV (ns.map g) (some i) (some j) = ((ns.drop a).take (b - a)).map g := by
  subst hi hj
  rw [cutV_nat, List.map_take, List.map_drop]
theorem join_nil : ∀ ys : List (List Nat), TL.joinL [] ys = ys.flatten
  | [] => rfl
  | [p] => by rw [List.flatten_cons, List.flatten_nil, List.append_nil]; rfl
  | p :: q :: r => by
    show p ++ ([] ++ TL.joinL [] (q :: r)) = _
    rw [join_nil (q :: r), List.nil_append, List.flatten_cons (l := p)]
section
variable {K : PySem.W.Frag} {σ : L2.St} {H H' : Hp} {ta tb te tc : TE} {t u : TT} {x y z v : V}
theorem ev_cS {x : Str} {l : List Nat} (h : x.cps.toList = l) : Ev (tC (.str x)) σ H (.str (S l)) := by
  rw [S1 x h]
  exact ev_c
theorem el_slN {τ : Type} {g : τ → V} {ns : List τ} {i j : Int} {p : Addr} {to tp : TO} (h : Ev te σ H (.ref p)) (h1 : EvO to σ H (some i)) (h2 : EvO tp σ H (some j)) (hs : SqL K H p (ns.map g)) (a b : Nat) (hi : i = (a : Int)) (hj : j = (b : Int)) :
    EvL (tSl (rSlL K) te to tp) σ H (((ns.drop a).take (b - a)).map g) := by
  rw [← cutV_map a b hi hj]
  exact el_sl h h1 h2 hs
theorem ev_slTo {to tp : TO} {l : List Nat} {i : Int} (h : Ev te σ H (.str (S l))) (h1 : EvO to σ H none) (h2 : EvO tp σ H (some i)) (hz : l.length ≤ 100000) (hi : 0 ≤ i) : Ev (tSl rSlS te to tp) σ H (.str (S (l.take i.toNat))) := by
  have k := ev_slS h h1 h2 hz
  rw [C8.cutS_slice, slice_to hi] at k
  exact k
theorem ev_slFrom {to tp : TO} {l : List Nat} {i : Int} (h : Ev te σ H (.str (S l))) (h1 : EvO to σ H (some i)) (h2 : EvO tp σ H none) (hz : l.length ≤ 100000) (hi : 0 ≤ i) : Ev (tSl rSlS te to tp) σ H (.str (S (l.drop i.toNat))) := by
  have k := ev_slS h h1 h2 hz
  rw [C8.cutS_slice, slice_from hi] at k
  exact k
theorem ev_isiB {b : Bool} (ha : Ev ta σ H (.bl b)) : Ev (tCB (rIsi K) (tCons ta (tCons (tC (.ty "bool")) tNil))) σ H (.bl true) := ev_isi (T := "bool") ha (.base (.bl b)) (by decide +kernel) fun _ _ => .base (.bl b)
/-- == of two lists of data -/
theorem eqv_lists {xs ys : List PyData} (h : PyData.eqv (.list xs) (.list ys) = b) : PyData.eqv (.list xs) (.list ys) = b := h
end
end Kn
namespace Kn
open PySem PySem.Spec PyProof.Rows L2 Evl SX
section
variable {K : PySem.W.Frag} {σ : L2.St} {H H' : Hp} {ta tb te tc : TE} {t u : TT} {x y z v : V} {D : Ends} {tu tw tz : TS}
/-- an if whose two ways meet again -/
theorem q_ifM {b : Bool} (M : L2.St → Hp → Prop) (h : EvT t σ H b) (h1 : b = true → ∀ H1, Ex H H1 → ∀ N : L2.St → Hp → Prop, (∀ σ' H', M σ' H' → N σ' H') → tu { D with nx := N } σ H1)
    (h2 : b = false → ∀ H1, Ex H H1 → ∀ N : L2.St → Hp → Prop, (∀ σ' H', M σ' H' → N σ' H') → tw { D with nx := N } σ H1) (k : ∀ σ' H', M σ' H' → tz D σ' H') : tSeq (tIfS t tu tw) tz D σ H :=
  s_if (D := { D with nx := tz D }) h (fun hb H1 e => h1 hb H1 e _ k) (fun hb H1 e => h2 hb H1 e _ k)
theorem s_next (h : D.nx σ H) : tNext D σ H := h
theorem eqD_true {p q : Addr} {xs : List V} {ds : List PyData} (hp : SqL K H p xs) (hq : SqL K H q xs) (hd : ∀ H1, Ex H H1 → DpAll K H1 xs ds) (hs : SeqAt.shaped (.list ds) = true) (hl : PyData.eqv (.list ds) (.list ds) = true) : RV (rEqD K) (.ref p) (.ref q) H (.bl true) := fun H1 e Q k =>
  ⟨.list ds, .list ds, .lst (ex_l e hp) (hd H1 e), .lst (ex_l e hq) (hd H1 e), hs, hs, by rw [hl]; exact k H1 (Ex.refl H1)⟩
end
end Kn
/-! ### rpartition; joins; more of lists -/
namespace Kn
open PySem PySem.Spec PyProof.Rows L2 Evl SX
def rRpart : V → List V → Hp → VK → Prop := fun x xs H Q => ∃ a b, x = .str a ∧ xs = [.str b] ∧ (b.length == 0) = false ∧ a.length ≤ sizeLine ∧ ∀ p, H p = none → Q (.ref p) (upd H p (.tup [.str (Txt.rpartition a b).1, .str (Txt.rpartition a b).2.1, .str (Txt.rpartition a b).2.2]))
theorem mt_rpartition {X : Cx} : MtR X "str.rpartition" rRpart := by
  intro pins s σ H x xs v us Q I rx rs h
  obtain ⟨a, b, rfl, rfl, hb, hz, h⟩ := h
  obtain ⟨t, rfl⟩ := rx
  cases rs with
  | cons r1 rs =>
    cases rs
    obtain ⟨u, rfl⟩ := r1
    refine call_meets F.slot_str_rpartition (typeIs_str _ _ _) F.entry_str_rpartition (F.args_str_rpartition_2 _ _) (meets_str_rpartition a b t u hb hz) ?_
    unfold Txt.rpartition at h
    revert h
    cases Builtin.Str.lastOccurrence a b 0 a.length with
    | none => intro h; exact laid_parts I h
    | some i => intro h; exact laid_parts I h
section
variable {K : PySem.W.Frag} {σ : L2.St} {H H' : Hp} {ta tb te tc : TE} {t u : TT} {x y z v : V}
theorem ev_rpart0 {l m : List Nat} (ha : Ev ta σ H (.str (S l))) (hb : Ev tb σ H (.str (S m))) (hm : m ≠ []) (hl : l.length ≤ 100000) : Ev (tOp (rIxT K) (tM1 rRpart ta tb) (tC (.int 0))) σ H (.str (Txt.rpartition (S l) (S m)).1) := fun H1 e Q q =>
  ha H1 e _ fun H2 e2 => ⟨⟨_, rfl⟩, hb H2 (e.trans e2) _ fun H3 e3 => ⟨S l, S m, rfl, rfl, by
    rw [S_len]
    cases m with
    | nil => exact absurd rfl hm
    | cons a r => rfl, by rw [S_len]; exact sz_of hl, fun p hp =>
      ⟨p, _, 0, _, rfl, rfl, st_of upd_same, atI_nat (j := 0) rfl, q _ ((e2.trans e3).trans (Ex.new hp))⟩⟩⟩
theorem ev_joinV {s : List Nat} {ys : List (List Nat)} {p : Addr} (hs : Ev ta σ H (.str (S s))) (hl : Ev tb σ H (.ref p)) (hp : SqL K H p (ys.map fun l => V.str (S l))) (hz : (ys.map (·.length)).sum + ys.length * s.length ≤ 16777216) : Ev (tM1 (rJoin K) ta tb) σ H (.str (S (TL.joinL s ys))) := fun H1 e Q q =>
  hs H1 e _ fun H2 e2 => ⟨⟨_, rfl⟩, hl H2 (e.trans e2) _ fun H3 e3 => ⟨S s, p, ys.map S, rfl, rfl, .inl (by rw [List.map_map]; exact ex_l ((e.trans e2).trans e3) hp), by
    rw [SX.lens, List.length_map, S_len]
    exact hz, by
    rw [SX.join_S]
    exact q H3 (e2.trans e3)⟩⟩
theorem el_slTo {τ : Type} {g : τ → V} {ns : List τ} {j : Int} {p : Addr} {to tp : TO} (h : Ev te σ H (.ref p)) (h1 : EvO to σ H none) (h2 : EvO tp σ H (some j)) (hs : SqL K H p (ns.map g)) (b : Nat) (hj : j = (b : Int)) :
    EvL (tSl (rSlL K) te to tp) σ H ((ns.take b).map g) := by
  have e : cutV (ns.map g) none (some j) = (ns.take b).map g := by
    subst hj
    have k := cutV_nat (xs := ns.map g) 0 b
    unfold cutV at k ⊢
    rw [HT.sIx_none, HT.sIx_nat]
    rw [HT.sIx_nat, HT.sIx_nat, Nat.zero_min] at k
    rw [k, List.drop_zero, Nat.sub_zero, List.map_take]
  rw [← e]
  exact el_sl h h1 h2 hs
theorem ev_isiL {p : Addr} {xs : List V} (ha : Ev ta σ H (.ref p)) (h : H p = some (.lst xs)) : Ev (tCB (rIsi K) (tCons ta (tCons (tC (.ty "list")) tNil))) σ H (.bl true) := ev_isi (T := "list") ha (.base (.lst h)) (by decide +kernel) fun _ e => .base (.lst (e _ _ h))
theorem ev_isiS {l : Str} (ha : Ev ta σ H (.str l)) : Ev (tCB (rIsi K) (tCons ta (tCons (tC (.ty "str")) tNil))) σ H (.bl true) := ev_isi (T := "str") ha (.base (.str l)) (by decide +kernel) fun _ _ => .base (.str l)
theorem rv_ge {a b : Int} : RV (rI0 fun i j => .bl (decide (j ≤ i))) (.int a) (.int b) H (.bl (decide (b ≤ a))) := rv_I0
theorem rv_gt {a b : Int} : RV (rI0 fun i j => .bl (decide (j < i))) (.int a) (.int b) H (.bl (decide (b < a))) := rv_I0
theorem rv_pow {i j : Int} (h : CPow i j) : RV (rI CPow fun i j => .int (i ^ j.toNat)) (.int i) (.int j) H (.int (i ^ j.toNat)) := rv_I h
end
theorem joinL_snoc (s x : List Nat) : ∀ {l : List (List Nat)}, l ≠ [] → TL.joinL s (l ++ [x]) = TL.joinL s l ++ (s ++ x)
  | [], h => absurd rfl h
  | [p], _ => rfl
  | p :: q :: r, _ => by
    show p ++ (s ++ TL.joinL s ((q :: r) ++ [x])) = (p ++ (s ++ TL.joinL s (q :: r))) ++ (s ++ x)
    rw [joinL_snoc s x (List.cons_ne_nil q r)]
    simp only [List.append_assoc]
theorem joinL_ne {s p : List Nat} {r : List (List Nat)} (h : p ≠ []) : TL.joinL s (p :: r) ≠ [] := by
  cases r with
  | nil => exact h
  | cons q r =>
    intro z
    have : p ++ (s ++ TL.joinL s (q :: r)) = [] := z
    exact h (List.append_eq_nil_iff.mp this).1
theorem joinL_len (s : List Nat) : ∀ l : List (List Nat), (TL.joinL s l).length ≤ (l.map (·.length)).sum + l.length * s.length
  | [] => Nat.zero_le _
  | [p] => by
    show p.length ≤ p.length + 0 + 1 * s.length
    omega
  | p :: q :: r => by
    have ih := joinL_len s (q :: r)
    show (p ++ (s ++ TL.joinL s (q :: r))).length ≤ p.length + ((q :: r).map (·.length)).sum + ((q :: r).length + 1) * s.length
    rw [List.length_append, List.length_append, Nat.succ_mul]
    omega
theorem sum_le {l : List (List Nat)} {n : Nat} (h : ∀ p ∈ l, p.length ≤ n) : (l.map (·.length)).sum ≤ l.length * n := by
  induction l with
  | nil => simp
  | cons p r ih =>
    have h1 := h p List.mem_cons_self
    have h2 := ih fun q hq => h q (List.mem_cons_of_mem _ hq)
    rw [List.map_cons, List.sum_cons, List.length_cons, Nat.succ_mul]
    omega
theorem at_one {l : List Nat} {c i : Nat} : StrLaws.At (S l) (S [c]) (S l).length i ↔ l[i]? = some c := by
  rw [TL.at_iff (x := S l) (y := S [c]) (List.cons_ne_nil _ _)]
  show ((l.drop i).take 1 == [c]) = true ↔ l[i]? = some c
  rw [beq_iff_eq]
  constructor
  · intro h
    have e := congrArg (fun z : List Nat => z[0]?) h
    simpa using e
  · intro h
    obtain ⟨hi, e⟩ := List.getElem?_eq_some_iff.mp h
    rw [List.drop_eq_getElem_cons hi, e]
    rfl
theorem rpart_none {l : List Nat} {c : Nat} (h : c ∉ l) : (Txt.rpartition (S l) (S [c])).1 = S [] := by
  unfold Txt.rpartition
  rcases StrLaws.last_spec (S l) (S [c]) with ⟨h0, hn⟩ | ⟨i, h0, hi, hn⟩
  · rw [h0]
    rfl
  · exact absurd (List.mem_of_getElem? (at_one.mp hi)) h
theorem rpart_some {p q : List Nat} {c : Nat} (h : c ∉ q) : (Txt.rpartition (S (p ++ c :: q)) (S [c])).1 = S p := by
  have hp : (p ++ c :: q)[p.length]? = some c := by simp
  unfold Txt.rpartition
  rcases StrLaws.last_spec (S (p ++ c :: q)) (S [c]) with ⟨h0, hn⟩ | ⟨i, h0, hi, hn⟩
  · exact absurd (at_one.mpr hp) (hn _)
  · rw [h0]
    have e : i = p.length := by
      have h1 := at_one.mp hi
      rcases Nat.lt_trichotomy i p.length with z | z | z
      · exact absurd (at_one.mpr hp) (hn _ z)
      · exact z
      · rw [List.getElem?_append_right (by omega)] at h1
        obtain ⟨k, hk⟩ : ∃ k, i - p.length = k + 1 := ⟨i - p.length - 1, by omega⟩
        rw [hk, List.getElem?_cons_succ] at h1
        exact absurd (List.mem_of_getElem? h1) h
    subst e
    show PySem.Builtin.Str.strSub (S (p ++ c :: q)) 0 p.length = S p
    refine TL.ext_tl ?_
    rw [TL.tl_strSub]
    show ((p ++ c :: q).drop 0).take (p.length - 0) = p
    simp
end Kn
/-! ### rules that name the written part: for the elements of a comprehension -/
namespace Kn
open PySem PySem.Spec PyProof.Rows L2 Evl SX
section
variable {X : Cx} {K : PySem.W.Frag}
theorem sl_listK (h : X.K = K) : SlR X (rSlL K) := by subst h; exact sl_list
theorem sl_tupK (h : X.K = K) : SlR X (rSlT K) := by subst h; exact sl_tup
theorem ix_listK (h : X.K = K) : IxR X (rIxL K) := by subst h; exact ix_list
theorem ix_tupK (h : X.K = K) : IxR X (rIxT K) := by subst h; exact ix_tup
theorem cr_lenSeqK (h : X.K = K) : CallR X (.builtin "len") (rLenS K) := by subst h; exact cr_lenSeq
theorem cr_isiK (h : X.K = K) : CallR X (.builtin "isinstance") (rIsi K) := by subst h; exact cr_isi
theorem cr_allK (h : X.K = K) (hc : X.calm = true) : CallR X (.builtin "all") (rAll K) := by subst h; exact cr_all hc
theorem op_in_seqK (h : X.K = K) : OpR X (compareOp .In) (rIn K false) := by subst h; exact op_in_seq
theorem op_notIn_seqK (h : X.K = K) : OpR X (compareOp .NotIn) (rIn K true) := by subst h; exact op_notIn_seq
theorem pe_joinK {e : Expr} {to te : TE} (hK : X.K = K) (h : PE X e (tM1 (fun x xs H Q => ∃ a p, ∃ ys : List Str, x = .str a ∧ xs = [.ref p] ∧ (SqL X.K H p (ys.map V.str) ∨ SqT X.K H p (ys.map V.str)) ∧ (ys.map (·.length)).sum + ys.length * a.length ≤ 16777216 ∧ Q (.str (Txt.join a ys)) H) to te)) : PE X e (tM1 (rJoin K) to te) := by
  subst hK
  exact h
end
end Kn
/-! ### texts: split, count, startswith, replace; loops over signs -/
namespace Kn
open PySem PySem.Spec PyProof.Rows L2 Evl SX
def rSplit : V → List V → Hp → VK → Prop := fun x xs H Q => ∃ a b, x = .str a ∧ xs = [.str b] ∧ (b.length == 0) = false ∧ a.length + 2 ≤ sizeLine ∧ rNewStrs (Txt.split a b) H Q
theorem mt_split {X : Cx} : MtR X "str.split" rSplit := L2.mt_split
def rCount : V → List V → Hp → VK → Prop := fun x xs H Q => ∃ a b, x = .str a ∧ xs = [.str b] ∧ Q (.int (Txt.count a b)) H
theorem mt_count {X : Cx} : MtR X "str.count" rCount := L2.mt_count
def rStarts : V → List V → Hp → VK → Prop := fun x xs H Q => ∃ a b, x = .str a ∧ xs = [.str b] ∧ Q (.bl (Txt.startswith a b)) H
theorem mt_startswith {X : Cx} : MtR X "str.startswith" rStarts := L2.mt_startswith
def rEnds : V → List V → Hp → VK → Prop := fun x xs H Q => ∃ a b, x = .str a ∧ xs = [.str b] ∧ Q (.bl (Txt.endswith a b)) H
theorem mt_endswith {X : Cx} : MtR X "str.endswith" rEnds := L2.mt_endswith
/-- l cut at each c -/
def cut1 (c : Nat) (l : List Nat) : List (List Nat) := TL.spl [c] 0 [] l
theorem starts_one {l : List Nat} {c : Nat} : Txt.startswith (S l) (S [c]) = decide (l[0]? = some c) := by
  have h : StrLaws.At (S l) (S [c]) (S l).length 0 ↔ l[0]? = some c := at_one
  unfold Txt.startswith
  rw [Bool.eq_iff_iff, Bool.and_eq_true, decide_eq_true_eq, decide_eq_true_eq]
  exact h
theorem count_one {l : List Nat} {c : Nat} : Txt.count (S l) (S [c]) = cnt c l := count_is (S l) c
theorem spl_map {c : Nat} {f : Nat → Nat} (hc : ∀ d, f d = c ↔ d = c) : ∀ (l acc : List Nat), TL.spl [c] 0 (acc.map f) (l.map f) = (TL.spl [c] 0 acc l).map (List.map f)
  | [], acc => rfl
  | d :: r, acc => by
    by_cases e : d = c
    · have h1 : TL.pre [c] (d :: r) = true := by
        subst e
        exact TL.pre_self [d] r
      have h2 : TL.pre [c] (f d :: r.map f) = true := by
        have e2 := (hc d).mpr e
        rw [e2]
        exact TL.pre_self [c] (r.map f)
      rw [List.map_cons, TL.spl_hit h1, TL.spl_hit h2, List.map_cons]
      exact congrArg (fun z => acc.map f :: z) (spl_map hc r [])
    · have h1 : TL.pre [c] (d :: r) = false := TL.pre_of_head [] r e
      have h2 : TL.pre [c] (f d :: r.map f) = false := TL.pre_of_head [] _ fun z => e ((hc d).mp z)
      rw [List.map_cons, TL.spl_miss h1, TL.spl_miss h2, ← spl_map hc r (acc ++ [d]), List.map_append]
      rfl
theorem cut1_map {c : Nat} {f : Nat → Nat} (hc : ∀ d, f d = c ↔ d = c) (l : List Nat) : cut1 c (l.map f) = (cut1 c l).map (List.map f) := spl_map hc l []
/-- each sign but c is in a part -/
theorem spl_mem {c d : Nat} (hd : d ≠ c) : ∀ (l acc : List Nat), d ∈ acc ∨ d ∈ l → ∃ p ∈ TL.spl [c] 0 acc l, d ∈ p
  | [], acc, h => by
    rcases h with h | h
    · exact ⟨acc, List.mem_cons_self, h⟩
    · exact nomatch h
  | e :: r, acc, h => by
    by_cases ec : e = c
    · have h1 : TL.pre [c] (e :: r) = true := by
        subst ec
        exact TL.pre_self [e] r
      rw [TL.spl_hit h1]
      rcases h with h | h
      · exact ⟨acc, List.mem_cons_self, h⟩
      · rcases List.mem_cons.mp h with z | z
        · exact absurd (z.trans ec) hd
        · obtain ⟨p, hp, hm⟩ := spl_mem hd r [] (.inr z)
          exact ⟨p, List.mem_cons_of_mem _ hp, hm⟩
    · rw [TL.spl_miss (TL.pre_of_head [] r ec)]
      refine spl_mem hd r (acc ++ [e]) ?_
      rcases h with h | h
      · exact .inl (List.mem_append_left _ h)
      · rcases List.mem_cons.mp h with z | z
        · exact .inl (List.mem_append_right _ (by rw [z]; exact List.mem_cons_self))
        · exact .inr z
theorem cut1_mem {c d : Nat} (hd : d ≠ c) {l : List Nat} (h : d ∈ l) : ∃ p ∈ cut1 c l, d ∈ p := spl_mem hd l [] (.inr h)
theorem spl_bound (c : Nat) : ∀ (l acc : List Nat), (TL.spl [c] 0 acc l).length ≤ l.length + 1 ∧ ∀ p ∈ TL.spl [c] 0 acc l, p.length ≤ acc.length + l.length
  | [], acc => ⟨Nat.le_refl _, fun p hp => by rw [List.mem_singleton.mp hp]; exact Nat.le_add_right _ _⟩
  | e :: r, acc => by
    by_cases ec : e = c
    · have h1 : TL.pre [c] (e :: r) = true := by
        subst ec
        exact TL.pre_self [e] r
      have ih := spl_bound c r []
      rw [TL.spl_hit h1]
      refine ⟨Nat.succ_le_succ ih.1, fun p hp => ?_⟩
      rcases List.mem_cons.mp hp with z | z
      · rw [z]
        omega
      · have := ih.2 p z
        rw [List.length_cons]
        simp at this
        omega
    · have ih := spl_bound c r (acc ++ [e])
      rw [TL.spl_miss (TL.pre_of_head [] r ec)]
      refine ⟨by have := ih.1; rw [List.length_cons]; omega, fun p hp => ?_⟩
      have := ih.2 p hp
      rw [List.length_append] at this
      rw [List.length_cons]
      simp at this
      omega
theorem cut1_len (c : Nat) (l : List Nat) : (cut1 c l).length ≤ l.length + 1 := (spl_bound c l []).1
theorem cut1_part {c : Nat} {l p : List Nat} (h : p ∈ cut1 c l) : p.length ≤ l.length := by
  have := (spl_bound c l []).2 p h
  simpa using this
theorem repl_one {c d : Nat} : ∀ l : List Nat, StrLaws.replL [c] [d] l = l.map fun e => if e = c then d else e
  | [] => StrLaws.replL_nil
  | e :: r => by
    by_cases h : e = c
    · subst h
      rw [StrLaws.replL_hit (List.cons_ne_nil _ _) rfl, List.map_cons, if_pos rfl, ← repl_one r]
      rfl
    · rw [StrLaws.replL_miss (y := [c]) (show ¬ (e :: r).take [c].length = [c] from fun z => h (List.cons.inj (show e :: r.take 0 = [c] from z)).1), List.map_cons, if_neg h, repl_one r]
theorem replace_S {l : List Nat} {c d : Nat} : Txt.replace (S l) (S [c]) (S [d]) = S (l.map fun e => if e = c then d else e) := by
  refine TL.ext_tl ?_
  show (Txt.replace (S l) (S [c]) (S [d])).cps.toList = _
  exact (StrLaws.replace_list (show 1 ≤ (S [c]).length from Nat.le_refl 1)).trans (repl_one l)
section
variable {K : PySem.W.Frag} {σ : L2.St} {H H' : Hp} {ta tb te tc : TE} {t u : TT} {x y z v : V} {D : Ends} {tu tz : TS}
theorem el_split {l : List Nat} {c : Nat} (ha : Ev ta σ H (.str (S l))) (hb : Ev tb σ H (.str (S [c]))) (hc : c < 256) (hl : l.length ≤ 90000) : EvL (tM1 rSplit ta tb) σ H ((cut1 c l).map fun p => V.str (S p)) := fun H1 e Q q =>
  ha H1 e _ fun H2 e2 => ⟨⟨_, rfl⟩, hb H2 (e.trans e2) _ fun H3 e3 => ⟨S l, S [c], rfl, rfl, rfl, sz_of (by rw [S_len]; omega), fun p hp => by
    rw [SX.split_S (List.cons_ne_nil _ _) (by simp [hc]), List.map_map]
    exact q p _ (fresh_back (e2.trans e3) hp) ((e2.trans e3).trans (Ex.new hp)) upd_same⟩⟩
theorem ev_count {l : List Nat} {c : Nat} (ha : Ev ta σ H (.str (S l))) (hb : Ev tb σ H (.str (S [c]))) : Ev (tM1 rCount ta tb) σ H (.int (cnt c l)) := fun H1 e Q q =>
  ha H1 e _ fun H2 e2 => ⟨⟨_, rfl⟩, hb H2 (e.trans e2) _ fun H3 e3 => ⟨S l, S [c], rfl, rfl, by
    rw [count_one]
    exact q H3 (e2.trans e3)⟩⟩
theorem ev_starts {l : List Nat} {c : Nat} (ha : Ev ta σ H (.str (S l))) (hb : Ev tb σ H (.str (S [c]))) : Ev (tM1 rStarts ta tb) σ H (.bl (decide (l[0]? = some c))) := fun H1 e Q q =>
  ha H1 e _ fun H2 e2 => ⟨⟨_, rfl⟩, hb H2 (e.trans e2) _ fun H3 e3 => ⟨S l, S [c], rfl, rfl, by
    rw [starts_one]
    exact q H3 (e2.trans e3)⟩⟩
theorem ev_replC {l : List Nat} {s1 s2 : Str} {c d : Nat} (ha : Ev ta σ H (.str (S l))) (h1 : s1 = S [c]) (h2 : s2 = S [d]) (hl : l.length ≤ 100000) : Ev (CwR.tReplC ta s1 s2) σ H (.str (S (l.map fun e => if e = c then d else e))) := fun H1 e Q q => by
  subst h1 h2
  refine ha H1 e _ fun H2 e2 => ⟨S l, rfl, ?_, ?_⟩
  · rw [S_len, S_len]
    show l.length + (l.length + 1) * 1 ≤ 16777216
    omega
  · rw [replace_S]
    exact q H2 e2
theorem s_forS {l : List Nat} {ts : TE} {j : Nat} (h : Ev ts σ H (.str (S l))) (Pv : Nat → L2.St → Hp → Prop) (h0 : ∀ H1, Ex H H1 → Pv 0 σ H1)
    (hs : ∀ (i c : Nat) σ' H', l[i]? = some c → Pv i σ' H' → tu { D with nx := Pv (i + 1), ct := Pv (i + 1), bk := D.nx } (σ'.set j (some (.str (S [c])))) H') (hd : ∀ σ' H', Pv l.length σ' H' → D.nx σ' H') : tFor (iStr ts) (gName j) tu D σ H :=
  h H (Ex.refl H) _ fun H1 e => ⟨S l, rfl, for_it walk_str Pv (h0 H1 e) (fun _ _ _ _ _ => trivial) (fun i x σ' H2 H3 hi p y => by
    obtain ⟨rfl, c, hc, rfl⟩ := y
    have hc' : l[i]? = some c := by simpa [S] using hc
    exact hs i c σ' _ hc' p) (fun σ' H2 p => by
    have hl : (S l).cps.size = l.length := by simp [S]
    rw [hl] at p
    exact hd σ' H2 p)⟩
theorem q_forS {l : List Nat} {ts : TE} {j : Nat} (h : Ev ts σ H (.str (S l))) (Pv : Nat → L2.St → Hp → Prop) (h0 : ∀ H1, Ex H H1 → Pv 0 σ H1)
    (hs : ∀ (i c : Nat) σ' H', l[i]? = some c → Pv i σ' H' → tu { D with nx := Pv (i + 1), ct := Pv (i + 1), bk := tz D } (σ'.set j (some (.str (S [c])))) H') (hd : ∀ σ' H', Pv l.length σ' H' → tz D σ' H') : tSeq (tFor (iStr ts) (gName j) tu) tz D σ H :=
  s_forS (D := { D with nx := tz D }) h Pv h0 hs hd
end
/-! ### an expression behind which a token is out -/
section
variable {X : Cx} {a b e o : Expr} {ta tb te to : TE} {pos apos : Pos}
def PEb (X : Cx) (e : Expr) (t : TE) : Prop := ∀ (pins : List (Addr × Obj)) (s : Shared) (σ : L2.St) (H : Hp) (Q : VK), Inv X pins σ H s → t σ H Q → wpAny (model X.prog X.w) X.A (eval e X.env) (fun v s1 => 1 ≤ s1.toks ∧ EP X pins σ Q v s1) X.xe s
theorem keep_tok {α : Type} {t : Sem α} {Q : α → Shared → Prop} {E : Value → Shared → Prop} {P : Program} {w : World} {A : Around} {s : Shared} (h0 : 1 ≤ s.toks) (h : wpAny (model P w) A t Q E s) : wpAny (model P w) A t (fun a s' => 1 ≤ s'.toks ∧ Q a s') E s :=
  wpAny_mono (PySem.wpAny_toks h) (fun _ _ q => ⟨Nat.le_trans h0 q.1, q.2⟩) fun _ _ z => z.2
theorem peb_str {x : Str} {j : Nat} : PEb X (.Constant (.str x) j pos) (tC (.str x)) := fun _ s _ H _ I h => Calls.Constant_str ⟨by show 1 ≤ s.toks + 1; omega, .str x, H, I.tok _, ⟨_, rfl⟩, h⟩
theorem peb_m1 {id : String} {name : Str} {r : V → List V → Hp → VK → Prop} (slot : Slot "str" name id) (ty : typeOf (.builtin id) = pure (.type "method_descriptor")) (rule : MtR X id r) (ho : PE X o to) (he : PEb X e te)
    (hs : starEach [e] X.env = [(false, eval e X.env)] := by rfl) (hbase : attributeBase o name X.env (eval o X.env) = eval o X.env := by rfl) (hline : (apos.endLine == pos.line) = true := by rfl) :
    PEb X (.Call (.Attribute o name apos) [e] [] pos) (tM1 r to te) := by
  intro pins s σ H Q I h
  refine PySem.Call_method1 hbase hs hline (thn (ho.run pins s σ H _ I h) fun v s1 ⟨x, H1, I1, r1, q1⟩ => ?_)
  obtain ⟨⟨a, rfl⟩, q1⟩ := q1
  obtain ⟨t, rfl⟩ := _root_.id r1
  refine ⟨"str", _, F.plainAttrs_str, slot, ty, typeIs_str _ _ _, (fun _ e => nomatch e), Calls.callWith_builtin rfl (Calls.evalArgs_plain (Calls.spliced_cons ?_))⟩
  exact thn (he pins s1 σ H1 _ I1 q1) fun u s2 ⟨h2, y, H2, I2, r2, q2⟩ => Calls.spliced_nil (keep_tok h2 (rule pins s2 σ H2 _ [y] _ [u] Q I2 r1 (.cons r2 .nil) q2))
theorem peb_cmpR {op : CmpOp} {r : R2} (ho : OpR X (compareOp op) r) (ha : PEb X a ta) (hb : PE X b tb) (hm : behindInMarks op b = false) : PEb X (.Compare a [op] [b] pos) (tOp r ta tb) := by
  intro pins s σ H Q I h
  refine wpAny_Compare1 (thn (ha pins s σ H _ I h) fun v s1 ⟨h1, x, H1, I1, r1, q1⟩ => ?_) hm
  refine thn (keep_tok h1 (hb.run pins s1 σ H1 _ I1 q1)) fun u s2 ⟨h2, y, H2, I2, r2, q2⟩ => ?_
  exact keep_tok h2 (ho pins s2 σ H2 x y v u Q I2 r1 r2 q2)
theorem pe_andB (ha : PEb X a ta) (hb : L2.PET X b tb) : PE X (.BoolOp .And [a, b] pos) (tAndV ta tb) := by
  refine ⟨fun pins s σ H Q I h => ?_⟩
  refine BoolOp_and (thn (ha pins s σ H _ I h) fun v s1 ⟨h1, x, H1, I1, r1, q1⟩ => ?_)
  obtain ⟨c, rfl, q1⟩ := q1
  cases r1
  refine wpAny_truthy_bool ?_
  cases c with
  | true => exact BoolOp_one (hb pins s1 σ H1 Q h1 I1 q1)
  | false => exact ⟨.bl false, H1, I1, rfl, q1⟩
theorem pet_cl {k j : Nat} {x : Str} {sp : Sp} {p : Pos} {es : List Expr} {t : TA} (c : Cl X.prog X.w X.K X.mg X.base k x sp) (hr : Room j X.A) (hk : k ≤ j) (hg : Gl X x) (ha : L2.PAT X (e :: es) t)
    (hdb : (x == ("__debug__" : Str)) = false := by decide) (he : starEach (e :: es) X.env = (false, eval e X.env) :: starEach es X.env := by rfl) (hpl : (backTo pos (starEach es X.env)).any (·.1) = false := by rfl) :
    L2.PET X (.Call (.Name x p) (e :: es) [] pos) (tCall sp [] E0 t) := by
  intro pins s σ H Q h0 I h
  obtain ⟨f, fd, ps, F, hm, kp, b⟩ := c.ex
  refine wpAny_Call_Name_kw (ld_glob I hg hm ?_ hdb)
  refine PySem.W.callWith_K (h₀ := X.base) I.ok.mod.kin kp (thn (ha pos pins s σ H _ h0 I h) fun us s1 ⟨vs, H1, I1, r, q⟩ => ⟨I1.kIn, ?_⟩) he hpl
  exact run_fn F (hr.mono hk) b .nil pass0 I1 r q
end
end Kn
/-! ### methods, classes, dicts with text keys -/
namespace Kn
open PySem PySem.Spec PyProof.Rows L2 Evl SX
structure Mt (P : Program) (w : World) (K : PySem.W.Frag) (mg : Str → Option Value) (base : Heap) (k : Nat) (C : Addr) (m : Str) (sp : Sp) : Prop where
  ex : ∃ (f : Addr) (fd : FuncData) (ps : List Str), Cls K C ∧ Meth K C m f ∧ FnOk P w K mg base CX0 k f fd ps sp ∧ Binds K fd ps []
structure Mkr (P : Program) (w : World) (K : PySem.W.Frag) (mg : Str → Option Value) (base : Heap) (k : Nat) (x : Str) (C : Addr) (sp : Sp) : Prop where
  ex : ∃ (f : Addr) (fd : FuncData) (ps : List Str), Mk K C f ∧ FnOk P w K mg base CX0 k f fd ps sp ∧ mg x = some (.ref C) ∧ Binds K fd ps []
section
variable {X : Cx} {k j : Nat} {C : Addr} {x m : Str} {sp : Sp} {p pos apos : Pos} {e o : Expr} {es : List Expr} {ta : TE} {t : TA}
theorem pe_mt {pl : Sem Bool} (c : Mt X.prog X.w X.K X.mg X.base k C m sp) (hr : Room j X.A) (hk : k ≤ j) (he : PE X o ta) (ha : PA X (e :: es) t)
    (hst : starEach (e :: es) X.env = (false, eval e X.env) :: starEach es X.env := by rfl) (hpl : (backTo pos (starEach es X.env)).any (·.1) = false := by rfl)
    (ht : eval (.Call (.Attribute o m apos) (e :: es) [] pos) X.env = (do
      let ov ← eval o X.env
      standAt apos.atName
      let (f, first) ← holding [ov] (getMethod ov m pl)
      callWith pos f first (backTo pos (starEach (e :: es) X.env)) (backToKw pos (keywordEach [] X.env))) := by rfl) :
    PE X (.Call (.Attribute o m apos) (e :: es) [] pos) (tMeth C m sp [] E0 ta t) := by
  obtain ⟨f, fd, ps, hc, hm, F, b⟩ := c.ex
  exact pe_meth (pl := pl) he hc hm F (hr.mono hk) b .nil pass0 ha hst hpl ht
theorem pe_mt0 {pl : Sem Bool} (c : Mt X.prog X.w X.K X.mg X.base k C m sp) (hr : Room j X.A) (hk : k ≤ j) (he : PE X o ta)
    (ht : eval (.Call (.Attribute o m apos) [] [] pos) X.env = (do
      let ov ← eval o X.env
      standAt apos.atName
      let (f, first) ← holding [ov] (getMethod ov m pl)
      callWith pos f first (backTo pos (starEach [] X.env)) (backToKw pos (keywordEach [] X.env))) := by rfl) :
    PE X (.Call (.Attribute o m apos) [] [] pos) (tMeth C m sp [] E0 ta tNil) := by
  obtain ⟨f, fd, ps, hc, hm, F, b⟩ := c.ex
  exact pe_meth0 (pl := pl) he hc hm F (hr.mono hk) b .nil pass0 ht
theorem pe_mkr0 (c : Mkr X.prog X.w X.K X.mg X.base k x C sp) (hr : Room j X.A) (hk : k + 1 ≤ j) (hg : Gl X x) (hdb : (x == ("__debug__" : Str)) = false := by decide) :
    PE X (.Call (.Name x p) [] [] pos) (tMake C sp [] E0 tNil) := by
  obtain ⟨f, fd, ps, M, F, hm, b⟩ := c.ex
  exact pe_make0 M F (hr.mono hk) hg hm b .nil pass0 hdb
def rStrInt : List V → Hp → VK → Prop := fun xs H Q => ∃ i, xs = [.int i] ∧ i.natAbs.log2 < 1920 ∧ Q (.str (toString i)) H
theorem cr_strInt : CallR X (.type "str") rStrInt := call_str_int
def rSortD (K : PySem.W.Frag) : List V → Hp → VK → Prop := fun xs H Q => ∃ (a : Addr) (kvs : List (Key × V)) (ks : List Str), xs = [.ref a] ∧ Rd H a (.dK kvs) ∧ kvs.map (·.1) = ks.map Sum.inr ∧ ks.length < 64 ∧ ∀ ys p, ys.Perm ks → sortedS ys = true → H p = none → Q (.ref p) (upd H p (.lst (ys.map V.str)))
theorem cr_sortD (h : X.calm = true) : CallR X (.builtin "sorted") (rSortD X.K) := call_sortedD h
def rDictP (K : PySem.W.Frag) : List V → Hp → VK → Prop := fun xs H Q => ∃ (a : Addr) (ps : List Addr) (kvs : List (Key × V)), xs = [.ref a] ∧ SqL K H a (ps.map V.ref) ∧ Paired (fun p kv => SqT K H p [kV kv.1, kv.2]) ps kvs ∧ ∀ p, H p = none → Q (.ref p) (upd H p (.dK (mergeK [] kvs)))
theorem cr_dictP (h : X.calm = true) : CallR X (.type "dict") (rDictP X.K) := call_dictP h
end
section
variable {K : PySem.W.Frag} {σ : L2.St} {H H' : Hp} {ta tb td ty te tc tv : TE} {t u : TT} {x y z v : V} {D : Ends} {tu tw tz : TS} {C p d dx : Addr} {fs : List (Str × V)} {kvs : List (Key × V)} {k : List Nat}
theorem ev_fld {f : Str} (ha : Ev ta σ H (.ref p)) (ho : H p = some (.ins C dx fs)) (hc : Cls K C) (hn : NoAttr K C f) (hl : fs.lookup f = some v) : Ev (tFld K ta f) σ H v := fun H1 e Q q =>
  ha H1 e _ fun H2 e2 => ⟨p, C, dx, fs, v, rfl, (e.trans e2) _ _ ho, hc, hn, hl, q H2 e2⟩
theorem ev_meth {m : Str} {sp : Sp} {E : XK} {t : TA} {vs : List V} (ha : Ev ta σ H (.ref p)) (ho : H p = some (.ins C dx fs)) (hm : fs.lookup m = none) (h : EvA t σ H vs) (hs : SpV sp (.ref p :: vs) H z) : Ev (tMeth C m sp [] E ta t) σ H z := fun H1 e Q q =>
  ha H1 e _ fun H2 e2 => ⟨p, dx, fs, rfl, (e.trans e2) _ _ ho, hm, h H2 (e.trans e2) _ fun H3 e3 => by
    rw [List.append_nil]
    exact hs H3 ((e.trans e2).trans e3) Q (fun H4 e4 => q H4 ((e2.trans e3).trans e4)) E⟩
theorem ev_dget (h1 : Ev td σ H (.ref d)) (h2 : Ev ty σ H (.str (S k))) (hd : H d = some (.dK kvs)) (hv : valV kvs (Sum.inr (S k)) = some v) : Ev (tDGet td ty) σ H v := fun H1 e Q q =>
  h1 H1 e _ fun H2 e2 => h2 H2 (e.trans e2) _ fun H3 e3 => ⟨d, v, rfl, by
    have g := DGet.k (k := (Sum.inr (S k) : Key)) (((e.trans e2).trans e3) _ _ hd)
    rw [hv] at g
    exact g, q H3 (e2.trans e3)⟩
theorem ev_dget1 (h1 : Ev td σ H (.ref d)) (h2 : Ev ty σ H (.str (S k))) (hd : H d = some (.dK kvs)) : Ev (tDGet1 td ty) σ H ((valV kvs (Sum.inr (S k))).getD .non) := fun H1 e Q q =>
  h1 H1 e _ fun H2 e2 => ⟨d, rfl, .inl ⟨kvs, .inl ((e.trans e2) _ _ hd)⟩, h2 H2 (e.trans e2) _ fun H3 e3 => ⟨_, DGet.k (k := (Sum.inr (S k) : Key)) (((e.trans e2).trans e3) _ _ hd), q H3 (e2.trans e3)⟩⟩
theorem et_din (h2 : Ev ty σ H (.str (S k))) (h1 : Ev td σ H (.ref d)) (hd : H d = some (.dK kvs)) : EvT (tB (tDIn ty td)) σ H (valV kvs (Sum.inr (S k))).isSome := fun H1 e Q q =>
  h2 H1 e _ fun H2 e2 => h1 H2 (e.trans e2) _ fun H3 e3 => ⟨d, _, rfl, DGet.k (k := (Sum.inr (S k) : Key)) (((e.trans e2).trans e3) _ _ hd), _, rfl, q H3 (e2.trans e3)⟩
/-- d[k] = v -/
theorem s_dput (hv : Ev tv σ H v) (h1 : ∀ H1, Ex H H1 → Ev td σ H1 (.ref d)) (h2 : ∀ H1, Ex H H1 → Ev ty σ H1 (.str (S k))) (hd : H d = some (.dK kvs)) (hl : kvs.length < 100000) (q : ∀ H1, Ex H H1 → D.nx σ (upd H1 d (.dK (putK kvs (Sum.inr (S k)) v)))) : sDPut td ty tv D σ H :=
  hv H (Ex.refl H) _ fun H1 e1 => h1 H1 e1 H1 (Ex.refl H1) _ fun H2 e2 => h2 H2 (e1.trans e2) H2 (Ex.refl H2) _ fun H3 e3 => ⟨d, _, rfl, DPut.k (k := (Sum.inr (S k) : Key)) (((e1.trans e2).trans e3) _ _ hd) (sz_lt hl), q H3 ((e1.trans e2).trans e3)⟩
/-- d[k] = (a, ..), a new tuple -/
theorem s_dputU {xs : List V} (hv : EvU tv σ H xs) (h1 : ∀ H1, Ex H H1 → Ev td σ H1 (.ref d)) (h2 : ∀ H1, Ex H H1 → Ev ty σ H1 (.str (S k))) (hd : H d = some (.dK kvs)) (hl : kvs.length < 100000) (q : ∀ r H1, H r = none → Ex H H1 → H1 r = some (.tup xs) → D.nx σ (upd H1 d (.dK (putK kvs (Sum.inr (S k)) (.ref r))))) : sDPut td ty tv D σ H :=
  hv H (Ex.refl H) _ fun r H1 nr e1 hr => h1 H1 e1 H1 (Ex.refl H1) _ fun H2 e2 => h2 H2 (e1.trans e2) H2 (Ex.refl H2) _ fun H3 e3 => ⟨d, _, rfl, DPut.k (k := (Sum.inr (S k) : Key)) (((e1.trans e2).trans e3) _ _ hd) (sz_lt hl), q r H3 nr ((e1.trans e2).trans e3) (e3 _ _ (e2 _ _ hr))⟩
theorem et_isN (ha : Ev ta σ H x) : EvT (tTest (tOp rIsN ta (tC .non))) σ H (decide (x = .non)) := et_test (ev_op ha ev_c fun H1 _ Q q => ⟨rfl, q H1 (Ex.refl H1)⟩)
theorem et_notN (ha : Ev ta σ H x) : EvT (tTest (tOp rNotN ta (tC .non))) σ H (!decide (x = .non)) := et_test (ev_op ha ev_c fun H1 _ Q q => ⟨rfl, q H1 (Ex.refl H1)⟩)
theorem rv_ix0 {q : Addr} {xs : List V} {i : Nat} (h : SqT K H q xs) (hi : xs[i]? = some v) : RV (rIxT K) (.ref q) (.int (i : Int)) H v := rv_ixT h (atI_nat hi)
theorem ev_strInt {n : Nat} (ha : Ev ta σ H (.int (n : Int))) (hn : n < 1000) : Ev (tCB rStrInt (tCons ta tNil)) σ H (.str (S (TL.numL n))) := fun H1 e Q q =>
  ha H1 e _ fun H2 e2 => ⟨(n : Int), rfl, by
    rw [Int.natAbs_natCast]
    have : n.log2 < 10 := by
      by_cases h0 : n = 0
      · subst h0
        decide
      · exact (Nat.log2_lt h0).mpr (by omega)
    omega, by
    have z := num_S n
    rw [← z] at q
    exact q H2 e2⟩
end
end Kn
/-! ### lists of pairs with text keys: what a dict holds -/
namespace Kn
open PySem PySem.Spec PyProof.Rows L2 Evl SX
section
variable {α : Type}
def look (es : List (List Nat × α)) (k : List Nat) : Option α := (es.find? fun x => decide (x.1 = k)).map (·.2)
def put (es : List (List Nat × α)) (k : List Nat) (e : α) : List (List Nat × α) := if (es.any fun x => decide (x.1 = k)) = true then es.map (fun x => if x.1 = k then (x.1, e) else x) else es ++ [(k, e)]
theorem look_cons (x : List Nat × α) (r : List (List Nat × α)) (k : List Nat) : look (x :: r) k = if x.1 = k then some x.2 else look r k := by
  unfold look
  rw [List.find?_cons]
  by_cases h : x.1 = k
  · rw [decide_eq_true h, if_pos h]
    rfl
  · rw [decide_eq_false h, if_neg h]
theorem look_any (k : List Nat) : ∀ es : List (List Nat × α), (es.any fun x => decide (x.1 = k)) = (look es k).isSome
  | [] => rfl
  | x :: r => by
    rw [List.any_cons, look_cons, look_any k r]
    by_cases h : x.1 = k
    · rw [decide_eq_true h, if_pos h]
      rfl
    · rw [decide_eq_false h, if_neg h]
      rfl
theorem look_map (k j : List Nat) (e : α) : ∀ es : List (List Nat × α), look (es.map fun x => if x.1 = k then (x.1, e) else x) j = (look es j).map fun y => if j = k then e else y
  | [] => rfl
  | x :: r => by
    rw [List.map_cons, look_cons, look_cons, look_map k j e r]
    by_cases h : x.1 = k
    · rw [if_pos h]
      by_cases h2 : x.1 = j
      · rw [if_pos h2, if_pos h2, Option.map_some, if_pos (h2.symm.trans h)]
      · rw [if_neg h2, if_neg h2]
    · rw [if_neg h]
      by_cases h2 : x.1 = j
      · rw [if_pos h2, if_pos h2, Option.map_some, if_neg (fun z => h (h2.trans z))]
      · rw [if_neg h2, if_neg h2]
theorem look_snoc (k j : List Nat) (e : α) : ∀ es : List (List Nat × α), look es k = none → look (es ++ [(k, e)]) j = if j = k then some e else look es j
  | [], _ => by
    show look [(k, e)] j = _
    rw [look_cons]
    by_cases h : k = j
    · rw [if_pos h, if_pos h.symm]
    · rw [if_neg h, if_neg (fun z => h z.symm)]
  | x :: r, hn => by
    rw [look_cons] at hn
    by_cases h : x.1 = k
    · rw [if_pos h] at hn
      cases hn
    · rw [if_neg h] at hn
      rw [List.cons_append, look_cons, look_cons, look_snoc k j e r hn]
      by_cases h2 : x.1 = j
      · rw [if_pos h2, if_pos h2, if_neg (fun z => h (h2.trans z))]
      · rw [if_neg h2, if_neg h2]
theorem look_put (es : List (List Nat × α)) (k j : List Nat) (e : α) : look (put es k e) j = if j = k then some e else look es j := by
  unfold put
  rw [look_any]
  cases h : look es k with
  | none => exact look_snoc k j e es h
  | some y =>
    show look (es.map _) j = _
    rw [look_map]
    by_cases hj : j = k
    · subst hj
      rw [h, if_pos rfl, Option.map_some, if_pos rfl]
    · rw [if_neg hj]
      cases look es j with
      | none => rfl
      | some z => rw [Option.map_some, if_neg hj]
theorem put_len (es : List (List Nat × α)) (k : List Nat) (e : α) : (put es k e).length ≤ es.length + 1 := by
  unfold put
  split
  · rw [List.length_map]
    omega
  · rw [List.length_append]
    exact Nat.le_refl _
theorem look_mem {es : List (List Nat × α)} {k : List Nat} {e : α} (h : look es k = some e) : (k, e) ∈ es := by
  unfold look at h
  cases hf : es.find? fun x => decide (x.1 = k) with
  | none => rw [hf] at h; cases h
  | some x =>
    rw [hf] at h
    have h1 : x.1 = k := of_decide_eq_true (List.find?_some (p := fun x : List Nat × α => decide (x.1 = k)) hf)
    have h2 : x.2 = e := Option.some.inj h
    rw [← h1, ← h2]
    exact List.mem_of_find?_eq_some hf
theorem mem_look {es : List (List Nat × α)} {x : List Nat × α} (h : x ∈ es) : (look es x.1).isSome = true := by
  rw [← look_any, List.any_eq_true]
  exact ⟨x, h, decide_eq_true rfl⟩
theorem look_put_mem {es : List (List Nat × α)} {k : List Nat} {e : α} {x : List Nat × α} (h : x ∈ put es k e) : x ∈ es ∨ x.2 = e := by
  unfold put at h
  split at h
  · obtain ⟨y, hy, e2⟩ := List.mem_map.mp h
    by_cases h3 : y.1 = k
    · rw [if_pos h3] at e2
      exact .inr (by rw [← e2])
    · rw [if_neg h3] at e2
      exact .inl (by rw [← e2]; exact hy)
  · rcases List.mem_append.mp h with z | z
    · exact .inl z
    · exact .inr (by rw [List.mem_singleton.mp z])
end
/-- how pairs lie as a dict's: R tells which value stands for which thing -/
def Lies {α : Type} (R : α → V → Prop) (es : List (List Nat × α)) (kvs : List (Key × V)) : Prop := Paired (fun x (kv : Key × V) => kv.1 = Sum.inr (S x.1) ∧ R x.2 kv.2) es kvs
section
variable {α : Type} {R R' : α → V → Prop}
theorem key_eq {a b : List Nat} : ((Sum.inr (S a) : Key) = Sum.inr (S b)) ↔ a = b := ⟨fun h => S_inj (Sum.inr.inj h), fun h => by rw [h]⟩
theorem Lies.len {es : List (List Nat × α)} {kvs : List (Key × V)} (h : Lies R es kvs) : es.length = kvs.length := Paired.length h
theorem Lies.mono {es : List (List Nat × α)} {kvs : List (Key × V)} (h : Lies R es kvs) (f : ∀ a v, R a v → R' a v) : Lies R' es kvs := Paired.mapP h fun _ _ z => ⟨z.1, f _ _ z.2⟩
theorem Lies.look : ∀ {es : List (List Nat × α)} {kvs : List (Key × V)}, Lies R es kvs → ∀ k, (Kn.look es k = none ∧ valV kvs (Sum.inr (S k)) = none) ∨ ∃ e v, Kn.look es k = some e ∧ valV kvs (Sum.inr (S k)) = some v ∧ R e v
  | [], _, .nil, _ => .inl ⟨rfl, rfl⟩
  | x :: r, kv :: kvs, .cons h t, k => by
    rw [look_cons]
    by_cases hk : x.1 = k
    · rw [if_pos hk]
      refine .inr ⟨x.2, kv.2, rfl, valV_pos (h.1.trans (key_eq.mpr hk)), h.2⟩
    · rw [if_neg hk, valV_neg (fun z => hk (key_eq.mp (h.1.symm.trans z)))]
      exact Lies.look t k
theorem Lies.any {es : List (List Nat × α)} {kvs : List (Key × V)} (h : Lies R es kvs) (k : List Nat) : (kvs.any fun kv => decide (kv.1 = Sum.inr (S k))) = es.any fun x => decide (x.1 = k) := by
  rw [valV_any, look_any]
  rcases h.look k with ⟨a, b⟩ | ⟨e, v, a, b, _⟩
  · rw [a, b]
    rfl
  · rw [a, b]
    rfl
theorem Lies.mapped {k : List Nat} {e : α} {v : V} (hv : R e v) : ∀ {es : List (List Nat × α)} {kvs : List (Key × V)}, Lies R es kvs → Lies R (es.map fun x => if x.1 = k then (x.1, e) else x) (kvs.map fun kv => if kv.1 = (Sum.inr (S k) : Key) then (kv.1, v) else kv)
  | [], _, .nil => .nil
  | x :: r, kv :: kvs, .cons h t => by
    refine .cons ?_ (Lies.mapped hv t)
    by_cases hk : x.1 = k
    · dsimp only
      rw [if_pos hk, if_pos (h.1.trans (key_eq.mpr hk))]
      exact ⟨h.1, hv⟩
    · dsimp only
      rw [if_neg hk, if_neg (fun z => hk (key_eq.mp (h.1.symm.trans z)))]
      exact h
theorem Lies.snoc {k : List Nat} {e : α} {v : V} (hv : R e v) : ∀ {es : List (List Nat × α)} {kvs : List (Key × V)}, Lies R es kvs → Lies R (es ++ [(k, e)]) (kvs ++ [(Sum.inr (S k), v)])
  | [], _, .nil => .cons ⟨rfl, hv⟩ .nil
  | _ :: _, _ :: _, .cons h t => .cons h (Lies.snoc hv t)
theorem Lies.put {es : List (List Nat × α)} {kvs : List (Key × V)} {k : List Nat} {e : α} {v : V} (h : Lies R es kvs) (hv : R e v) : Lies R (Kn.put es k e) (putK kvs (Sum.inr (S k)) v) := by
  unfold Kn.put putK
  rw [h.any k]
  split
  · exact h.mapped hv
  · exact h.snoc hv
theorem Lies.keys : ∀ {es : List (List Nat × α)} {kvs : List (Key × V)}, Lies R es kvs → kvs.map (·.1) = (es.map fun x => S x.1).map Sum.inr
  | [], _, .nil => rfl
  | _ :: _, _ :: _, .cons h t => by
    rw [List.map_cons, List.map_cons, List.map_cons, h.1, Lies.keys t]
theorem Lies.get : ∀ {es : List (List Nat × α)} {kvs : List (Key × V)}, Lies R es kvs → ∀ (i : Nat) kv, kvs[i]? = some kv → ∃ x, es[i]? = some x ∧ kv.1 = Sum.inr (S x.1) ∧ R x.2 kv.2
  | [], _, .nil, _, _, h => by simp at h
  | x :: _, kv :: _, .cons h t, 0, kv', e => by
    cases Option.some.inj e
    exact ⟨x, rfl, h.1, h.2⟩
  | _ :: _, _ :: _, .cons h t, i + 1, kv', e => by
    obtain ⟨y, h1, h2⟩ := Lies.get t i kv' (by simpa using e)
    exact ⟨y, by simpa using h1, h2⟩
end
section
variable {K : PySem.W.Frag} {σ : L2.St} {H H' : Hp} {ta tb td ty te tc tv : TE} {t u : TT} {x y z v : V} {D : Ends} {tu tw tz : TS} {C p d dx : Addr} {fs : List (Str × V)} {kvs : List (Key × V)} {k : List Nat}
/-- y = [x for x in d.values() if t] -/
theorem s_lcVals {i j : Nat} {vs : List Nat} (f : Nat → Bool) (h1 : ∀ H1 : Hp, (∀ a o, a ≠ d → H a = some o → H1 a = some o) → Ev td σ H1 (.ref d)) (hd : H d = some (.dK kvs)) (hz : kvs.length ≤ 40000) (hw : ∀ x, wipe ((wipe σ vs).set j (some x)) vs = wipe σ vs)
    (ht : ∀ (i : Nat) (kv : Key × V) (H1 : Hp), (∀ a o, a ≠ d → H a = some o → H1 a = some o) → kvs[i]? = some kv → EvT t ((wipe σ vs).set j (some kv.2)) H1 (f i)) (he : ∀ (x : V) H1, Ev te ((wipe σ vs).set j (some x)) H1 x)
    (k : ∀ p H1, H p = none → Ex H H1 → H1 p = some (.lst (given kvs.length f fun i => (kvs[i]?.map (·.2)).getD .non)) → D.nx (σ.set i (some (.ref p))) H1) : tLock (tAsg (tLc (iVals td) (gName j) t te vs) (gName i)) D σ H := by
  refine ⟨d, .dK kvs, hd, trivial, fun od => ?_⟩
  have base : ∀ H1, Ex (upd H d (.frz od (.dK kvs))) H1 → ∀ a o, a ≠ d → H a = some o → H1 a = some o := fun H1 e a o ha h => e a o (by rw [upd_ne ha]; exact h)
  refine h1 _ (base _ (Ex.refl _)) _ (Ex.refl _) _ fun H1 e1 => ⟨d, od, kvs, rfl, e1 _ _ upd_same, fun Dl hD => ?_⟩
  refine lc_it walk_values (Cw H1 f (fun i => (kvs[i]?.map (·.2)).getD .non) Dl) ⟨hD, Ex.new hD, upd_same⟩ (fun i H2 _ q => q.2.1 _ _ (e1 _ _ upd_same)) (fun i x H2 H3 hi q y => ?_) (fun H2 q => ?_)
  · obtain ⟨rfl, ky, hy⟩ := y
    refine ⟨hw x, cw_turn q (by omega) (ht i (ky, x) H1 (base H1 e1) hy) (fun _ => ?_)⟩
    rw [hy]
    exact he x H1
  · have dn : H1 d = some (.frz od (.dK kvs)) := e1 _ _ upd_same
    have hd2 : H2 d = some (.frz od (.dK kvs)) := q.2.1 _ _ dn
    refine ⟨hd2, k Dl _ ?_ (fun a o h => ?_) ?_⟩
    · cases h : H Dl with
      | none => rfl
      | some o =>
        have ne : Dl ≠ d := fun z => by rw [z] at hD; rw [hD] at dn; cases dn
        have := e1 _ _ (by rw [upd_ne ne]; exact h)
        rw [hD] at this
        cases this
    · by_cases ha : a = d
      · rw [ha] at h ⊢
        rw [upd_same, ← hd, h]
      · rw [upd_ne ha]
        exact q.2.1 _ _ (base H1 e1 a o ha h)
    · have ne : Dl ≠ d := fun z => by rw [z] at hD; rw [hD] at dn; cases dn
      rw [upd_ne ne]
      exact q.2.2
/-- [(a, ..) for x in d if t]: new tuples -/
theorem ev_lcKeysT {j : Nat} {vs : List Nat} (f : Nat → Bool) (xs : Nat → List V) (h1 : ∀ H1, Ev td σ H1 (.ref d)) (hd : H d = some (.dK kvs)) (hz : kvs.length ≤ 40000) (hw : ∀ x, wipe ((wipe σ vs).set j (some x)) vs = wipe σ vs)
    (ht : ∀ (i : Nat) (kv : Key × V) (H1 : Hp) , kvs[i]? = some kv → EvT t ((wipe σ vs).set j (some (kV kv.1))) H1 (f i))
    (he : ∀ (i : Nat) (kv : Key × V) (H1 : Hp) (od : Obj), H1 d = some (.frz od (.dK kvs)) → kvs[i]? = some kv → f i = true → EvU te ((wipe σ vs).set j (some (kV kv.1))) H1 (xs i)) :
    ∀ H0, Ex H H0 → ∀ Q : VK, (∀ p H2 (ps : List Addr), H0 p = none → Ex H0 H2 → H2 p = some (.lst (ps.map V.ref)) → Paired (fun q v => H2 q = some (.tup v)) ps (((List.range kvs.length).filter f).map xs) → Q (.ref p) H2) → tLockE (tLc (iKeys td) (gName j) t te vs) σ H0 Q := by
  intro H0 e0 Q k
  have hd0 := e0 _ _ hd
  refine ⟨d, .dK kvs, hd0, trivial, fun od => ?_⟩
  refine h1 _ _ (Ex.refl _) _ fun H1 e1 => ⟨d, od, rfl, .inl ⟨kvs, e1 _ _ upd_same, fun Dl hD => ?_⟩⟩
  have dn : H1 d = some (.frz od (.dK kvs)) := e1 _ _ upd_same
  have ne : Dl ≠ d := fun z => by rw [z] at hD; rw [hD] at dn; cases dn
  refine lc_it walk_keys (fun i H' => Ex H1 H' ∧ ∃ ps : List Addr, H' Dl = some (.lst (ps.map V.ref)) ∧ ps.length ≤ i ∧ Paired (fun q v => H' q = some (.tup v)) ps (((List.range i).filter f).map xs)) ⟨Ex.new hD, [], upd_same, Nat.le_refl _, .nil⟩ (fun i H2 _ q => q.1 _ _ dn) (fun i x H2 H3 hi q y => ?_) (fun H2 q => ?_)
  · obtain ⟨rfl, ky, vv, hy, rfl⟩ := y
    obtain ⟨e2, ps, hl, hlen, hp⟩ := q
    refine ⟨hw _, ht i (ky, vv) _ hy _ (Ex.refl _) _ fun H3 e3 => ?_⟩
    cases hf : f i with
    | false =>
      show Ex H1 H3 ∧ _
      refine ⟨e2.trans e3, ps, e3 _ _ hl, by omega, ?_⟩
      rw [List.range_succ, List.filter_append, List.filter_cons, hf]
      show Paired _ ps (List.map xs (_ ++ []))
      rw [List.append_nil]
      exact Paired.mapP hp fun _ _ z => e3 _ _ z
    | true =>
      show te _ H3 fun y H4 => ∃ acc, _
      refine he i (ky, vv) H3 od (e3 _ _ (e2 _ _ dn)) hy hf H3 (Ex.refl _) _ fun r H4 nr e4 hr => ?_
      have hl4 : H4 Dl = some (.lst (ps.map V.ref)) := e4 _ _ (e3 _ _ hl)
      refine ⟨ps.map V.ref, hl4, sz_lt (by rw [List.length_map]; omega), Ex.mut ((e2.trans e3).trans e4) hD, ps ++ [r], ?_, ?_, ?_⟩
      · rw [List.map_append]
        exact upd_same
      · rw [List.length_append]
        show ps.length + 1 ≤ i + 1
        omega
      · have up : ∀ q w, H4 q = some (.tup w) → (upd H4 Dl (.lst (ps.map V.ref ++ [.ref r]))) q = some (.tup w) := fun q w hq => by
          rw [upd_ne (ne_of hq hl4 (by intro z; cases z))]
          exact hq
        rw [List.range_succ, List.filter_append, List.filter_cons, hf, List.map_append]
        have app : ∀ {F : Addr → List V → Prop} {as : List Addr} {bs : List (List V)} {a : Addr} {b : List V}, Paired F as bs → F a b → Paired F (as ++ [a]) (bs ++ [b]) := by
          intro F as bs a b hh hab
          induction hh with
          | nil => exact .cons hab .nil
          | cons h1 _ ih => exact .cons h1 ih
        exact app (Paired.mapP hp fun _ _ z => up _ _ (e4 _ _ (e3 _ _ z))) (up _ _ hr)
  · obtain ⟨e2, ps, hl, _, hp⟩ := q
    refine ⟨e2 _ _ dn, k Dl _ ps ?_ (fun a o h => ?_) ?_ (Paired.mapP hp fun q w z => ?_)⟩
    · cases h : H0 Dl with
      | none => rfl
      | some o =>
        have := e1 _ _ (by rw [upd_ne ne]; exact h)
        rw [hD] at this
        cases this
    · by_cases ha : a = d
      · rw [ha] at h ⊢
        rw [upd_same, ← hd0, h]
      · rw [upd_ne ha]
        exact e2 _ _ (e1 _ _ (by rw [upd_ne ha]; exact h))
    · rw [upd_ne ne]
      exact hl
    · have hdz : H2 d = some (.frz od (.dK kvs)) := e2 _ _ dn
      rw [upd_ne (ne_of z hdz (by intro w; cases w))]
      exact z
end
end Kn
namespace Kn
open PySem PySem.Spec PyProof.Rows L2 Evl SX
section
variable {K : PySem.W.Frag} {σ : L2.St} {H H' : Hp} {ta tb td ty te tc tv : TE} {t u : TT} {x y z v : V} {D : Ends} {tu tw tz : TS} {C p d dx : Addr} {fs : List (Str × V)} {kvs : List (Key × V)} {k : List Nat}
theorem q_dnew {i : Nat} (k : ∀ p, H p = none → tz D (σ.set i (some (.ref p))) (upd H p (.dK []))) : tSeq (tAsg tDNewK (gName i)) tz D σ H := k
theorem s_meth {m : Str} {sp : Sp} {E : XK} {tA : TA} {vs : List V} (ha : Ev ta σ H (.ref p)) (ho : H p = some (.ins C dx fs)) (hm : fs.lookup m = none) (h : EvA tA σ H vs) (k : ∀ H1, Ex H H1 → sp (.ref p :: vs) H1 (fun _ H2 => D.nx σ H2) E) : tDrop (tMeth C m sp [] E ta tA) D σ H :=
  ha H (Ex.refl H) _ fun H1 e1 => ⟨p, dx, fs, rfl, e1 _ _ ho, hm, h H1 e1 _ fun H2 e2 => by
    rw [List.append_nil]
    exact k H2 (e1.trans e2)⟩
theorem q_meth {m : Str} {sp : Sp} {E : XK} {tA : TA} {vs : List V} (ha : Ev ta σ H (.ref p)) (ho : H p = some (.ins C dx fs)) (hm : fs.lookup m = none) (h : EvA tA σ H vs) (k : ∀ H1, Ex H H1 → sp (.ref p :: vs) H1 (fun _ H2 => tz D σ H2) E) : tSeq (tDrop (tMeth C m sp [] E ta tA)) tz D σ H :=
  s_meth (D := { D with nx := tz D }) ha ho hm h k
/-- for k in sorted(d) -/
theorem q_forSD {ks : List (List Nat)} {j : Nat} (hv : Ev td σ H (.ref d)) (hd : H d = some (.dK kvs)) (hk : kvs.map (·.1) = (ks.map S).map Sum.inr) (hn : ks.length < 64) (Pv : List (List Nat) → Addr → Nat → L2.St → Hp → Prop)
    (h0 : ∀ ys p H1, ys.Perm ks → H p = none → Ex H H1 → H1 p = some (.lst (ys.map fun l => V.str (S l))) → Pv ys p 0 σ H1)
    (hl : ∀ ys p i σ' H', Pv ys p i σ' H' → SqL K H' p (ys.map fun l => V.str (S l)))
    (hs : ∀ ys p i l σ' H', ys.Perm ks → ys[i]? = some l → Pv ys p i σ' H' → tu { D with nx := Pv ys p (i + 1), ct := Pv ys p (i + 1), bk := tz D } (σ'.set j (some (.str (S l)))) H')
    (hend : ∀ ys p σ' H', ys.Perm ks → Pv ys p ys.length σ' H' → tz D σ' H') : tSeq (tFor (iList K (tCB (rSortD K) (tCons td tNil))) (gName j) tu) tz D σ H := by
  refine hv H (Ex.refl H) _ fun H1 e1 => ⟨d, kvs, ks.map S, rfl, .inl (e1 _ _ hd), hk, by rw [List.length_map]; exact hn, fun ys p hp _ hnew => ?_⟩
  have e : ys = (ys.map TL.tl).map S := by
    rw [List.map_map]
    exact (List.map_id' ys).symm.trans (List.map_congr_left fun x _ => (S_tl x).symm)
  have hperm : (ys.map TL.tl).Perm ks := by
    have h := hp.map TL.tl
    rw [map_S_tl] at h
    exact h
  have e2 : ys.map V.str = (ys.map TL.tl).map fun l => V.str (S l) := by
    rw [List.map_map]
    exact List.map_congr_left fun x _ => congrArg V.str (S_tl x).symm
  refine ⟨p, rfl, ⟨_, sq_of upd_same⟩, ?_⟩
  rw [e2]
  refine for_list (xs := (ys.map TL.tl).map fun l => V.str (S l)) (Pv (ys.map TL.tl) p) (h0 _ p _ hperm (fresh_back e1 hnew) (e1.trans (Ex.new hnew)) upd_same) (fun i σ' H' _ q => hl _ p i σ' H' q) (fun i x σ' H' hx q => ?_) (fun σ' H' q => ?_)
  · rw [List.getElem?_map] at hx
    cases h : (ys.map TL.tl)[i]? with
    | none => rw [h] at hx; cases hx
    | some l =>
      rw [h] at hx
      cases Option.some.inj hx
      exact hs _ p i l σ' H' hperm h q
  · rw [List.length_map] at q
    exact hend _ p σ' H' hperm q
end
/-! ### a dict made of pairs -/
def puts {α : Type} (acc L : List (List Nat × α)) : List (List Nat × α) := L.foldl (fun a x => put a x.1 x.2) acc
theorem look_puts {α : Type} {g : List Nat → Option α} : ∀ (L acc : List (List Nat × α)), (∀ x ∈ L, g x.1 = some x.2) → ∀ k, look (puts acc L) k = if k ∈ L.map (·.1) then g k else look acc k
  | [], acc, _, k => (if_neg (by simp)).symm
  | x :: r, acc, h, k => by
    show look (puts (put acc x.1 x.2) r) k = _
    rw [look_puts r _ (fun y hy => h y (List.mem_cons_of_mem _ hy)) k, look_put]
    by_cases h1 : k ∈ r.map (·.1)
    · rw [if_pos h1, if_pos (by rw [List.map_cons]; exact List.mem_cons_of_mem _ h1)]
    · rw [if_neg h1]
      by_cases h2 : k = x.1
      · rw [if_pos h2, if_pos (by rw [List.map_cons, h2]; exact List.mem_cons_self), h2, h x List.mem_cons_self]
      · rw [if_neg h2, if_neg (by rw [List.map_cons, List.mem_cons]; exact fun z => z.elim h2 h1)]
theorem puts_len {α : Type} : ∀ (L acc : List (List Nat × α)), (puts acc L).length ≤ acc.length + L.length
  | [], acc => Nat.le_refl _
  | x :: r, acc => by
    have h1 := puts_len r (put acc x.1 x.2)
    have h2 := put_len acc x.1 x.2
    show (puts (put acc x.1 x.2) r).length ≤ _
    rw [List.length_cons]
    omega
theorem Lies.puts {α : Type} {R : α → V → Prop} : ∀ {L : List (List Nat × α)} {kvs : List (Key × V)} {acc : List (List Nat × α)} {akvs : List (Key × V)}, Lies R L kvs → Lies R acc akvs → Lies R (Kn.puts acc L) (mergeK akvs kvs)
  | [], _, _, _, .nil, h => h
  | x :: r, kv :: kvs, acc, akvs, .cons h t, ha => by
    have h2 := ha.put (k := x.1) h.2
    rw [← h.1] at h2
    show Lies R (Kn.puts (Kn.put acc x.1 x.2) r) (mergeK (putK akvs kv.1 kv.2) kvs)
    exact Lies.puts (L := r) (kvs := kvs) t h2
theorem put_mem {α : Type} {es : List (List Nat × α)} {k : List Nat} {e : α} {x : List Nat × α} (h : x ∈ put es k e) : x ∈ es ∨ x = (k, e) := by
  unfold put at h
  split at h
  · obtain ⟨y, hy, e2⟩ := List.mem_map.mp h
    by_cases h3 : y.1 = k
    · rw [if_pos h3] at e2
      exact .inr (by rw [← e2, h3])
    · rw [if_neg h3] at e2
      exact .inl (by rw [← e2]; exact hy)
  · rcases List.mem_append.mp h with z | z
    · exact .inl z
    · exact .inr (List.mem_singleton.mp z)
theorem upd_none {H : Hp} {a b : Addr} {o : HO} (h : upd H a o b = none) : H b = none := by
  by_cases e : b = a
  · subst e
    rw [upd_same] at h
    cases h
  · rw [upd_ne e] at h
    exact h
theorem Paired.maps {α β γ : Type} {F : α → β → Prop} {f : γ → α} {g : γ → β} : ∀ (L : List γ), (∀ i ∈ L, F (f i) (g i)) → Paired F (L.map f) (L.map g)
  | [], _ => .nil
  | x :: r, h => .cons (h x List.mem_cons_self) (Paired.maps r fun i hi => h i (List.mem_cons_of_mem _ hi))
theorem ev_dgetF {σ : L2.St} {H : Hp} {td ty : TE} {d : Addr} {k : List Nat} {kvs : List (Key × V)} {v : V} {od : Obj} (h1 : Ev td σ H (.ref d)) (h2 : Ev ty σ H (.str (S k))) (hd : H d = some (.frz od (.dK kvs))) (hv : valV kvs (Sum.inr (S k)) = some v) : Ev (tDGet td ty) σ H v := fun H1 e Q q =>
  h1 H1 e _ fun H2 e2 => h2 H2 (e.trans e2) _ fun H3 e3 => ⟨d, v, rfl, .inl ⟨kvs, Sum.inr (S k), .inr ⟨od, ((e.trans e2).trans e3) _ _ hd⟩, rfl, hv.symm⟩, q H3 (e2.trans e3)⟩
end Kn

/-! ### own exceptions over an own base -/
namespace Kn
open PySem PySem.Spec PyProof.Rows L2 Evl SX
/-- what the base's __init__ asks of the own base class at B -/
structure BaseC (K : PySem.W.Frag) (B : Addr) : Prop where
  sp : PySem.W.specialIn K (.ref B) "__getattribute__" = some (some (.builtin "type.__getattribute__"))
  rd : PySem.W.readsIn K B (.type "type") = true
  fi : PySem.W.findCls K (.ref B) (.type "type") "__init__" = some (.val (.builtin "ValueError.__init__"))
theorem pe_beinit {X : Cx} {b : Str} {B : Addr} {e : Expr} {es : List Expr} {ta : TA} {p1 p2 pos : Pos} {pl : Sem Bool} (T : BaseC X.K B) (hg : Gl X b) (hm : X.mg b = some (.ref B)) (ha : PA X (e :: es) ta)
    (hdb : (b == ("__debug__" : Str)) = false := by decide)
    (hc : eval (.Call (.Attribute (.Name b p1) "__init__" p2) (e :: es) [] pos) X.env = (do
      let ov ← eval (.Name b p1) X.env
      standAt p2.atName
      let (f, first) ← holding [ov] (getMethod ov "__init__" pl)
      callWith pos f first (backTo pos (starEach (e :: es) X.env)) (backToKw pos (keywordEach [] X.env))) := by rfl)
    (he : starEach (e :: es) X.env = (false, eval e X.env) :: starEach es X.env := by rfl) (hpl : (backTo pos (starEach es X.env)).any (·.1) = false := by rfl) :
    PE X (.Call (.Attribute (.Name b p1) "__init__" p2) (e :: es) [] pos) (tVeI X.K ta) := by
  refine ⟨fun pins s σ H Q I h => ?_⟩
  refine PySem.W.methodCall_KW (ld_glob I hg hm ?_ hdb) hc
  refine PySem.W.method_cls I.kIn T.sp (PySem.W.cls_value I.kIn T.rd T.fi (by decide +kernel) ?_)
  show wpAny _ _ (callWith pos (Value.builtin "ValueError.__init__") [] (backTo pos (starEach (e :: es) X.env)) []) _ _ _
  refine PyProof.Rows.callWith_method1 (thn (ha.run pos pins _ σ H _ (I.tok _) h) fun us s1 ⟨vs, H1, I1, r1, a, C, ws, ev, hl, T, ea, q⟩ => ?_) he hpl
  subst ev
  cases r1 with
  | @cons _ u0 _ ur ra rw' =>
    obtain rfl : u0 = Value.ref a := ra
    have hlen : ur.length ≤ sizeLine := by
      rw [← Paired.length rw', sizeLine_eq]
      omega
    exact oinit_ok T I1 ea hlen fun s' J => ⟨.non, H1, J, rfl, q⟩
/-- isinstance(e, c), e the exception at a that the suite holds, with a dict -/
def rIsX (K : PySem.W.Frag) (a : Addr) (cls : Value) (d : Option Addr) : List V → Hp → VK → Prop := fun xs H Q => ∃ (D dd : Addr) (fs : List (Str × V)) (c : V) (cv : Value) (b : Bool),
  cls = .ref D ∧ d = some dd ∧ ExcC K D ∧ H dd = some (.xd fs) ∧ xs = [.ref a, c] ∧ (∀ u, RelV c u → u = cv) ∧ PySem.W.kitOne K (.ref D) cv = some b ∧ Q (.bl b) H
theorem cr_isX {X : Cx} {a : Addr} {oe : Obj} {cls : Value} {d : Option Addr} {pn : List (Addr × Obj)} (hz : Zc cls d oe) (hf : ∃ vs, oe.data = .fields vs) : CallR (X.suite a ((a, oe) :: pn)) (.builtin "isinstance") (rIsX X.K a cls d) := by
  intro pins s σ H xs us Q I r h
  obtain ⟨D, dd, fs, c, cv, b, rfl, rfl, C, hd, rfl, hcv, e, q⟩ := h
  obtain ⟨u0, u1, rfl, r0, r1⟩ := vals2 r
  obtain rfl : u0 = Value.ref a := r0
  obtain rfl := hcv _ r1
  obtain ⟨hget, _⟩ := I.pin (a, oe) (List.mem_append_left _ List.mem_cons_self)
  obtain ⟨vs, hv⟩ := hf
  obtain ⟨mA, hns, _⟩ := (I.hok dd _ hd : ObjOk X.prog X.w H s.heap dd (.xd fs))
  obtain ⟨od, ho, _⟩ := lookIn_ns hns
  have J : PySem.W.InstAt s.heap a oe D (some od) := ⟨hget, hz.1, by unfold PySem.W.notCls; rw [hv] <;> rfl, by rw [hz.2]; exact ho⟩
  obtain ⟨cd, hc, _⟩ := PySem.W.any_some C.hd
  exact PySem.W.kia_one (PySem.W.kitx_exc (by rw [hc]; rfl) C.hg C.hk C.hs C.ha C.hn C.ht C.hm) I.kIn J e (fun z => nomatch z) fun tk => ⟨.bl b, H, I.kept (t' := tk) fun _ _ z => z, rfl, q⟩
end Kn
/-! ### int(t, 2) -/
namespace Kn.Bi
open PySem PySem.Spec PyProof.Rows L2 PySem.NumText PySem.Calls
def IsBin (c : Nat) : Prop := c = 48 ∨ c = 49
theorem IsBin.hex {c : Nat} (h : IsBin c) : Hx.IsHex c := .inl (by unfold IsBin at h; omega)
theorem IsBin.lt {c : Nat} (h : IsBin c) : Hx.hv c < 2 := by
  rcases h with rfl | rfl <;> decide
def binNum (l : List Nat) : Nat := l.foldl (fun a c => a * 2 + Hx.hv c) 0
theorem step_bin {ds : Array Nat} {b : Bool} {c : Nat} (h : IsBin c) : PySem.NumText.step 2 (ds, b) c = some (ds.push (Hx.hv c), true) := by
  unfold PySem.NumText.step
  rw [if_neg (by rw [beq_iff_eq]; exact (Hx.hex_rng h.hex).2.2), Hx.digit_hex h.hex]
  exact if_pos h.lt
theorem fold_bin : ∀ (cs : List Nat) (ds : Array Nat), (∀ c ∈ cs, IsBin c) → cs.foldlM (PySem.NumText.step 2) (ds, true) = some (cs.foldl (fun acc c => acc.push (Hx.hv c)) ds, true)
  | [], _, _ => rfl
  | c :: cs, ds, h => by
    rw [List.foldlM_cons, step_bin (h c List.mem_cons_self)]
    exact fold_bin cs _ fun d hd => h d (List.mem_cons_of_mem _ hd)
theorem digits_bin {cs : List Nat} (h : ∀ c ∈ cs, IsBin c) (hne : cs ≠ []) : digits? 2 cs = some (cs.foldl (fun acc c => acc.push (Hx.hv c)) #[]) := by
  cases cs with
  | nil => exact absurd rfl hne
  | cons c cs =>
    unfold digits?
    rw [List.foldlM_cons, step_bin (h c List.mem_cons_self)]
    show (cs.foldlM (PySem.NumText.step 2) ((#[] : Array Nat).push (Hx.hv c), true)).bind _ = _
    rw [fold_bin cs _ fun d hd => h d (List.mem_cons_of_mem _ hd)]
    rfl
theorem push_bin : ∀ (cs : List Nat) (ds : Array Nat), (cs.foldl (fun acc c => acc.push (Hx.hv c)) ds).foldl (fun acc d => acc * 2 + d) 0 = cs.foldl (fun a c => a * 2 + Hx.hv c) (ds.foldl (fun acc d => acc * 2 + d) 0)
  | [], _ => rfl
  | c :: cs, ds => by
    rw [List.foldl_cons, push_bin cs, List.foldl_cons]
    congr 1
    simp
theorem based_bin : ∀ {cs : List Nat}, (∀ c ∈ cs, IsBin c) → based 2 cs = (2, false, cs)
  | [], _ => rfl
  | [a], h => by rcases h a List.mem_cons_self with rfl | rfl <;> rfl
  | a :: c :: r, h => by
    rcases h a List.mem_cons_self with rfl | rfl <;> rcases h c (List.mem_cons_of_mem _ List.mem_cons_self) with rfl | rfl <;> rfl
theorem read_bin {cs : List Nat} (h : ∀ c ∈ cs, IsBin c) (hne : cs ≠ []) : (int_private% "readNumeral") 0 2 cs = (int_private% "Numeral.value") ((binNum cs : Nat) : Int) := by
  have hx : ∀ c ∈ cs, Hx.IsHex c := fun c hc => (h c hc).hex
  have hr : ∀ c ∈ cs.reverse, Hx.IsHex c := fun c hc => hx c (List.mem_reverse.mp hc)
  refine (readNumeral_eq 0 2 cs).trans ?_
  rw [Hx.dropB hx, Hx.signH hx]
  show judge 0 false (based 2 cs).1 (based 2 cs).2.1 (digits? (based 2 cs).1 (((based 2 cs).2.2.reverse.dropWhile blank).reverse)) = _
  rw [based_bin h]
  show judge 0 false 2 false (digits? 2 ((cs.reverse.dropWhile blank).reverse)) = _
  rw [Hx.dropB hr, List.reverse_reverse, digits_bin h hne]
  show (int_private% "Numeral.value") (((cs.foldl (fun acc c => acc.push (Hx.hv c)) (#[] : Array Nat)).foldl (fun acc d => acc * 2 + d) 0 : Nat) : Int) = _
  have z : (#[] : Array Nat).foldl (fun acc d => acc * 2 + d) 0 = 0 := by first | rfl | simp
  rw [push_bin, z] <;> rfl
theorem gives_bin {x : PySem.Str} {u t : Tok} (hl : x.length ≤ 640) (h : ∀ c ∈ x.cps.toList, IsBin c) (hne : x.cps.toList ≠ []) :
    Gives (Builtin.«int.__new__» ⟨[.type "int", .str x u, .int 2 t], []⟩) (.int ((binNum x.cps.toList : Nat) : Int)) :=
  .of_wp fun M A E s Q hQ => by
    obtain ⟨hp, g, d, tk, os⟩ := s
    have f1 := F.conv_sub_int
    have f2 := F.madeHere_int
    have f6 : typeOf (.str x u) = pure (.type "str") := rfl
    obtain ⟨e1, e2⟩ := Hx.seen_hex fun c hc => (h c hc).hex
    have hs : (numSeenOf x).length ≤ 640 := by
      rw [e2, Array.length_toList]
      exact hl
    have hr : (int_private% "readNumeral") 0 2 (numSeenOf x) = (int_private% "Numeral.value") ((binNum x.cps.toList : Nat) : Int) := by
      rw [e2]
      exact read_bin h hne
    have ha : ((numSeenOf x).length == (numTextOf x).length) = true := by
      rw [e1, e2]
      exact beq_self_eq_true _
    have hk := Hx.Hid.mk (And.intro hs (And.intro hr ha))
    clear hs hr ha e1 e2 hl hne h
    repeat (any_goals (first
      | assumption
      | ((with_reducible show wpAny _ _ ((int_private% "intFromText") _ _ _) _ _ _); refine Hx.wp_textB hk.out.1 hk.out.2.1 hk.out.2.2 ?_)
      | wp_step))
    all_goals first | exact ⟨_, rfl, hQ⟩ | skip
/-- int(t, 2) -/
def rIntBin : List V → Hp → VK → Prop := fun xs H Q => ∃ l : List Nat, xs = [.str (SX.S l), .int 2] ∧ l ≠ [] ∧ l.length ≤ 640 ∧ (∀ c ∈ l, IsBin c) ∧ Q (.int ((binNum l : Nat) : Int)) H
theorem cr_intBin {X : Cx} : CallR X (.type "int") rIntBin := by
  intro pins s σ H xs us Q I r h
  obtain ⟨l, rfl, hne, hl, hx, q⟩ := h
  obtain ⟨u, w', rfl, r1, r2⟩ := vals2 r
  obtain ⟨t1, rfl⟩ := r1
  obtain ⟨t2, rfl⟩ := r2
  exact callType_new F.called_int F.newNe_int (Hx.typeCall_int_2 _ _) (Hx.newCall_int_2 _ _) (fun obj => F.initArgs_range_2 obj _ _) F.entry_int_new (gives_bin (x := SX.S l) (by rw [SX.S_len]; exact hl) hx hne).meets
    (show (Made.int ((binNum l : Nat) : Int)).post _ s from ⟨rfl, ⟨.int ((binNum l : Nat) : Int), H, I.tok _, ⟨_, rfl⟩, q⟩⟩)
end Kn.Bi
/-! ### f'{n:b}' -/
namespace Kn.Bi
open PySem PySem.Spec PyProof.Rows L2 PySem.NumText PySem.Calls PySem.W Builtin.Float
def digB (n : Nat) : List Nat := (Nat.toDigits 2 n).map Char.toNat
def fB : FormatSpec := { align := 62, type := some 98 }
theorem parse_b : parseFormatSpec (Str.ofString "b").cps.toList "int" 62 = .ok fB := by kernel_rfl
theorem digB_ne (n : Nat) : digB n ≠ [] := fun z => by
  have h1 := tDigits_len_ge 2 n
  have h2 : (digB n).length = (Nat.toDigits 2 n).length := List.length_map _
  rw [z, List.length_nil] at h2
  omega
theorem field_eq (ds : List Nat) (h : ds ≠ []) : intField' fB false [] ds [] 4 = SX.S ds := by
  unfold intField' fB
  cases ds with
  | nil => exact absurd rfl h
  | cons c r =>
    simp
    omega
theorem field_b {a : Int} (h0 : 0 ≤ a) : intField' fB (decide (a < 0)) [] (digB a.natAbs) [] 4 = SX.S (digB a.natAbs) := by
  rw [decide_eq_false (by omega)]
  exact field_eq _ (digB_ne _)
theorem meets_b {a : Int} {t u : Tok} (h0 : 0 ≤ a) (hl : (digB a.natAbs).length ≤ 100000) : Meets (Builtin.«int.__format__» ⟨[.int a t, .str "b" u], []⟩) (fun _ R s => ∀ t' k, R (.ok (.ret (.str (SX.S (digB a.natAbs)) t'))) { s with toks := k }) := by
  apply KPc.meets_of
  intro _ _ _ _ _ _ hQ
  unfold Builtin.«int.__format__»
  refine wpAny_bind (wpAny_of_eq (a := (_, _)) rfl ?_)
  refine wpAny_bind (wpAny_of_eq (a := _) rfl ?_)
  kxf_if
  refine wpAny_bind (wpAny_typeNameOf (T := "str") (typeIs_str _ _ _) (by decide) fun _ => ?_)
  refine wpAny_bind (wpAny_of_eq (a := some _) rfl ?_)
  kxf_if
  kxf_if
  refine wpAny_bind (wpAny_typeNameOfCut_int ?_)
  rw [parse_b]
  dsimp only
  rw [if_pos (by decide +kernel)]
  show wpAny _ _ (retStr (intField' fB (decide (a < 0)) [] (digB a.natAbs) [] 4)) _ _ _
  exact KXf.ret_text (field_b h0) (by rw [field_b h0, SX.S_len]; exact Evl.sz_of hl) hQ
/-- {x:b} -/
def tFmtB (te : TE) : TE := fun σ H Q => te σ H fun x H1 => ∃ i : Int, x = .int i ∧ 0 ≤ i ∧ (digB i.natAbs).length ≤ 100000 ∧ Q (.str (SX.S (digB i.natAbs))) H1
theorem pe_fmtB {X : Cx} {e sp : Expr} {te : TE} {pos : Pos} (he : PE X e te) (hs : PE X sp (tC (.str "b"))) : PE X (.FormattedValue e (-1) (some sp) pos) (tFmtB te) := by
  refine ⟨fun pins s σ H Q I h => ?_⟩
  refine wpAny_FormattedValue_spec (thn (he.run pins s σ H _ I h) fun v s1 ⟨x, H1, I1, r1, i, ex, h0, hl, q⟩ => ?_)
  subst ex
  obtain ⟨t, rfl⟩ := r1
  refine thn (hs.run pins s1 σ H1 (fun v H2 => v = .str "b" ∧ H2 = H1) I1 ⟨rfl, rfl⟩) fun r s2 ⟨y, H2, I2, r2, ey, eH⟩ => ?_
  subst ey
  subst eH
  obtain ⟨t2, rfl⟩ := r2
  exact ⟨_, t2, rfl, KXf.field_int rfl (by decide +kernel) (by decide +kernel) (fun u => meets_b h0 hl) fun t' k => ⟨.str (SX.S (digB i.natAbs)), H2, I2.tok _, ⟨_, rfl⟩, q⟩⟩
end Kn.Bi
/-! ### comprehensions over ranges -/
namespace Kn
open PySem PySem.Spec PyProof.Rows L2 Evl SX
section
variable {K : PySem.W.Frag} {σ : L2.St} {H H' : Hp} {ta tb te tc : TE} {t u : TT} {x y z v : V} {D : Ends} {tu tw tz : TS}
theorem el_lcR2 {ta : TA} {j : Nat} {vs : List Nat} {lo hi : Int} (f : Nat → Bool) (v : Nat → V) (h : EvA ta σ H [.int lo, .int hi]) (hb : 0 ≤ lo ∧ lo ≤ hi ∧ hi ≤ 40000) (hw : ∀ x, wipe ((wipe σ vs).set j (some x)) vs = wipe σ vs)
    (ht : ∀ (i : Nat) H1, Ex H H1 → lo + (i : Int) < hi → EvT t ((wipe σ vs).set j (some (.int (lo + (i : Int))))) H1 (f i)) (he : ∀ (i : Nat) H1, Ex H H1 → lo + (i : Int) < hi → f i = true → Ev te ((wipe σ vs).set j (some (.int (lo + (i : Int))))) H1 (v i)) :
    EvL (tLc (iRng2 ta) (gName j) t te vs) σ H (given (hi - lo).toNat f v) := fun H0 e Q q => h H0 e _ fun H1 e1 => ⟨lo, hi, rfl, ⟨by omega, by omega, by omega, by omega⟩, fun Dl hD =>
  lc_it walk_range (Cw H1 f v Dl) ⟨hD, Ex.new hD, upd_same⟩ (fun _ _ _ _ => trivial) (fun i x H2 H3 hi p y => by
    obtain ⟨rfl, rfl⟩ := y
    exact ⟨hw _, cw_turn p (by omega) (ht i H1 (e.trans e1) (by omega)) (fun hf => he i H1 (e.trans e1) (by omega) hf)⟩) (fun H' p => q Dl H' (fresh_back e1 p.1) (e1.trans p.2.1) p.2.2)⟩
theorem range7 (c : Nat) (hc : c ≤ 5000) : RgC 1 (((1 + 7 * c : Nat) : Int)) 7 c := by
  have e : Builtin.Range.rangeSize 1 (((1 + 7 * c : Nat) : Int)) 7 = (c : Int) := by
    unfold Builtin.Range.rangeSize
    rw [if_pos (by decide)]
    split <;> omega
  have fit : ∀ i : Int, 0 ≤ i → i ≤ 100000 → Builtin.Range.rangeFitsLong i = true := fun i h1 h2 => by
    unfold Builtin.Range.rangeFitsLong
    rw [decide_eq_true (by omega), decide_eq_true (by omega)]
    rfl
  refine ⟨by decide, by decide, ?_, e⟩
  unfold Builtin.Range.small
  rw [e, fit 1 (by decide) (by decide), fit _ (by omega) (by omega), fit 7 (by decide) (by decide), fit (c : Int) (by omega) (by omega), if_pos (by decide), fit _ (by omega) (by omega), Bool.or_true]
  rfl
theorem el_lcR7 {ta : TA} {j : Nat} {vs : List Nat} {c : Nat} (v : Nat → V) (h : EvA ta σ H [.int 1, .int (((1 + 7 * c : Nat) : Int)), .int 7]) (hc : c ≤ 5000) (hw : ∀ x, wipe ((wipe σ vs).set j (some x)) vs = wipe σ vs)
    (he : ∀ (i : Nat) H1, Ex H H1 → i < c → Ev te ((wipe σ vs).set j (some (.int (1 + (i : Nat) * 7)))) H1 (v i)) :
    EvL (tLc (iRng3 ta) (gName j) tYes te vs) σ H (given c (fun _ => true) v) := fun H0 e Q q => h H0 e _ fun H1 e1 => ⟨1, _, 7, c, rfl, range7 c hc, fun Dl hD =>
  lc_it walk_rangeC (Cw H1 (fun _ => true) v Dl) ⟨hD, Ex.new hD, upd_same⟩ (fun _ _ _ _ => trivial) (fun i x H2 H3 hi p y => by
    obtain ⟨rfl, rfl⟩ := y
    exact ⟨hw _, cw_turn p (by omega) et_yes (fun hf => he i H1 (e.trans e1) hi)⟩) (fun H' p => q Dl H' (fresh_back e1 p.1) (e1.trans p.2.1) p.2.2)⟩
theorem ev_intBin {l : List Nat} (h : EvA (tCons ta (tCons tb tNil)) σ H [.str (S l), .int 2]) (hne : l ≠ []) (hl : l.length ≤ 640) (hb : ∀ c ∈ l, Bi.IsBin c) : Ev (tCB Bi.rIntBin (tCons ta (tCons tb tNil))) σ H (.int ((Bi.binNum l : Nat) : Int)) := fun H1 e Q q =>
  h H1 e _ fun H2 e2 => ⟨l, rfl, hne, hl, hb, q H2 e2⟩
theorem ev_fmtB {n : Nat} (h : Ev te σ H (.int (n : Int))) (hl : (Bi.digB n).length ≤ 100000) : Ev (Bi.tFmtB te) σ H (.str (S (Bi.digB n))) := fun H1 e Q q =>
  h H1 e _ fun H2 e2 => ⟨(n : Int), rfl, by omega, hl, q H2 e2⟩
end
end Kn

/-! ### f'{n:07b}' -/
namespace Kn.Bi
open PySem PySem.Spec PyProof.Rows L2 PySem.NumText PySem.Calls PySem.W Builtin.Float
def f7 : FormatSpec := { fill := 48, align := 61, width := some 7, type := some 98 }
theorem parse_7 : parseFormatSpec (Str.ofString "07b").cps.toList "int" 62 = .ok f7 := by kernel_rfl
def pad7 (d : Nat) : List Nat := [48 + d / 64 % 2, 48 + d / 32 % 2, 48 + d / 16 % 2, 48 + d / 8 % 2, 48 + d / 4 % 2, 48 + d / 2 % 2, 48 + d % 2]
theorem field_7 : ∀ d : Nat, d < 128 → intField' f7 false [] (digB d) [] 4 = SX.S (pad7 d) := by decide +kernel
theorem meets_7 {d : Nat} {t u : Tok} (hd : d < 128) : Meets (Builtin.«int.__format__» ⟨[.int (d : Int) t, .str "07b" u], []⟩) (fun _ R s => ∀ t' k, R (.ok (.ret (.str (SX.S (pad7 d)) t'))) { s with toks := k }) := by
  apply KPc.meets_of
  intro _ _ _ _ _ _ hQ
  unfold Builtin.«int.__format__»
  refine wpAny_bind (wpAny_of_eq (a := (_, _)) rfl ?_)
  refine wpAny_bind (wpAny_of_eq (a := _) rfl ?_)
  kxf_if
  refine wpAny_bind (wpAny_typeNameOf (T := "str") (typeIs_str _ _ _) (by decide) fun _ => ?_)
  refine wpAny_bind (wpAny_of_eq (a := some _) rfl ?_)
  kxf_if
  kxf_if
  refine wpAny_bind (wpAny_typeNameOfCut_int ?_)
  rw [parse_7]
  dsimp only
  rw [if_pos (by decide +kernel)]
  show wpAny _ _ (retStr (intField' f7 (decide ((d : Int) < 0)) [] (digB (d : Int).natAbs) [] 4)) _ _ _
  have e : intField' f7 (decide ((d : Int) < 0)) [] (digB (d : Int).natAbs) [] 4 = SX.S (pad7 d) := by
    rw [decide_eq_false (by omega), Int.natAbs_natCast]
    exact field_7 d hd
  exact KXf.ret_text e (by rw [e, SX.S_len]; exact Evl.sz_of (by show 7 ≤ 100000; decide)) hQ
/-- {x:07b} of a small number -/
def tFmt7 (te : TE) : TE := fun σ H Q => te σ H fun x H1 => ∃ d : Nat, x = .int (d : Int) ∧ d < 128 ∧ Q (.str (SX.S (pad7 d))) H1
theorem pe_fmt7 {X : Cx} {e sp : Expr} {te : TE} {pos : Pos} (he : PE X e te) (hs : PE X sp (tC (.str "07b"))) : PE X (.FormattedValue e (-1) (some sp) pos) (tFmt7 te) := by
  refine ⟨fun pins s σ H Q I h => ?_⟩
  refine wpAny_FormattedValue_spec (thn (he.run pins s σ H _ I h) fun v s1 ⟨x, H1, I1, r1, d, ex, hd, q⟩ => ?_)
  subst ex
  obtain ⟨t, rfl⟩ := r1
  refine thn (hs.run pins s1 σ H1 (fun v H2 => v = .str "07b" ∧ H2 = H1) I1 ⟨rfl, rfl⟩) fun r s2 ⟨y, H2, I2, r2, ey, eH⟩ => ?_
  subst ey
  subst eH
  obtain ⟨t2, rfl⟩ := r2
  exact ⟨_, t2, rfl, KXf.field_int rfl (by decide +kernel) (by decide +kernel) (fun u => meets_7 hd) fun t' k => ⟨.str (SX.S (pad7 d)), H2, I2.tok _, ⟨_, rfl⟩, q⟩⟩
end Kn.Bi
/-! ### int(t, 2) of long texts -/
namespace Kn.Bi
open PySem PySem.Spec PyProof.Rows L2 PySem.NumText PySem.Calls
theorem wp_textL {M : Model} {A : Around} {E : Value → Shared → Prop} {s : Shared} {Q : Value → Shared → Prop} {v : Value} {text : List Nat} {B : Nat} {n : Int}
    (hK : PySem.W.Looks M s.heap (nsGet cStatics "sys.int_max_str_digits") none) (hs : ¬ (text.takeWhile (· != 0)).length ≤ 640)
    (hr : (int_private% "readNumeral") 4300 B (text.takeWhile (· != 0)) = (int_private% "Numeral.value") n)
    (ha : ((text.takeWhile (· != 0)).length == text.length) = true) (h : Q (.int n s.toks) { s with toks := s.toks + 1 }) :
    wpAny M A ((int_private% "intFromText") v text B) Q E s := by
  obtain ⟨hp, g, d, tk, os⟩ := s
  have hm : ∀ {Q : Nat → Shared → Prop} {E : Value → Shared → Prop}, Q 4300 ⟨hp, g, d, tk, os⟩ → wpAny M A Builtin.intMaxStrDigits Q E ⟨hp, g, d, tk, os⟩ := fun q => by
    unfold Builtin.intMaxStrDigits
    exact wpAny_bind (hK.here (wpAny_pure q))
  repeat (any_goals (first
    | assumption
    | (with_reducible refine wpAny_ite_false (decide_eq_false hs) ?_)
    | (with_reducible refine hm ?_)
    | (with_reducible refine wpAny_ite_true (decide_eq_true ha) ?_)
    | wp_step))
  all_goals (try rw [hr])
  all_goals (try dsimp only)
  repeat (any_goals (first
    | assumption
    | (with_reducible refine wpAny_ite_true (decide_eq_true ha) ?_)
    | wp_step))
theorem read_binL {cs : List Nat} (h : ∀ c ∈ cs, IsBin c) (hne : cs ≠ []) : (int_private% "readNumeral") 4300 2 cs = (int_private% "Numeral.value") ((binNum cs : Nat) : Int) := by
  have hx : ∀ c ∈ cs, Hx.IsHex c := fun c hc => (h c hc).hex
  have hr : ∀ c ∈ cs.reverse, Hx.IsHex c := fun c hc => hx c (List.mem_reverse.mp hc)
  refine (readNumeral_eq 4300 2 cs).trans ?_
  rw [Hx.dropB hx, Hx.signH hx]
  show judge 4300 false (based 2 cs).1 (based 2 cs).2.1 (digits? (based 2 cs).1 (((based 2 cs).2.2.reverse.dropWhile blank).reverse)) = _
  rw [based_bin h]
  show judge 4300 false 2 false (digits? 2 ((cs.reverse.dropWhile blank).reverse)) = _
  rw [Hx.dropB hr, List.reverse_reverse, digits_bin h hne]
  show (int_private% "Numeral.value") (((cs.foldl (fun acc c => acc.push (Hx.hv c)) (#[] : Array Nat)).foldl (fun acc d => acc * 2 + d) 0 : Nat) : Int) = _
  have z : (#[] : Array Nat).foldl (fun acc d => acc * 2 + d) 0 = 0 := by first | rfl | simp
  rw [push_bin, z] <;> rfl
def NoDig (h : Heap) : Prop := ∀ M : Model, PySem.W.Looks M h (nsGet cStatics "sys.int_max_str_digits") none
theorem meets_binL {x : PySem.Str} {u t : Tok} (hl : ¬ x.length ≤ 640) (h : ∀ c ∈ x.cps.toList, IsBin c) (hne : x.cps.toList ≠ []) :
    Meets (Builtin.«int.__new__» ⟨[.type "int", .str x u, .int 2 t], []⟩) (fun _ R s => NoDig s.heap ∧ R (.ok (.ret (.int ((binNum x.cps.toList : Nat) : Int) s.toks))) { s with toks := s.toks + 1 }) :=
  .of_wp fun prog w A R s ⟨hd, hQ⟩ => by
    obtain ⟨hp, g, d, tk, os⟩ := s
    have f1 := F.conv_sub_int
    have f2 := F.madeHere_int
    have f6 : typeOf (.str x u) = pure (.type "str") := rfl
    obtain ⟨e1, e2⟩ := Hx.seen_hex fun c hc => (h c hc).hex
    have hs : ¬ (numSeenOf x).length ≤ 640 := by
      rw [e2, Array.length_toList]
      exact hl
    have hr : (int_private% "readNumeral") 4300 2 (numSeenOf x) = (int_private% "Numeral.value") ((binNum x.cps.toList : Nat) : Int) := by
      rw [e2]
      exact read_binL h hne
    have ha : ((numSeenOf x).length == (numTextOf x).length) = true := by
      rw [e1, e2]
      exact beq_self_eq_true _
    have hk := Hx.Hid.mk (And.intro (hd (model prog w)) (And.intro hs (And.intro hr ha)))
    clear hs hr ha e1 e2 hl hne h
    repeat (any_goals (first
      | assumption
      | ((with_reducible show wpAny _ _ ((int_private% "intFromText") _ _ _) _ _ _); refine wp_textL hk.out.1 hk.out.2.1 hk.out.2.2.1 hk.out.2.2.2 ?_)
      | wp_step))
    all_goals first | exact ⟨_, rfl, hQ⟩ | skip
/-- int(t, 2) of any text -/
def rIntBinL : List V → Hp → VK → Prop := fun xs H Q => ∃ l : List Nat, xs = [.str (SX.S l), .int 2] ∧ l ≠ [] ∧ (∀ c ∈ l, IsBin c) ∧ Q (.int ((binNum l : Nat) : Int)) H
theorem cr_intBinL {X : Cx} (hd : PySem.W.nsIn X.K cStatics "sys.int_max_str_digits" = some none) : CallR X (.type "int") rIntBinL := by
  intro pins s σ H xs us Q I r h
  obtain ⟨l, rfl, hne, hx, q⟩ := h
  by_cases hl : l.length ≤ 640
  · exact cr_intBin pins s σ H _ us Q I r ⟨l, rfl, hne, hl, hx, q⟩
  · obtain ⟨u, w', rfl, r1, r2⟩ := vals2 r
    obtain ⟨t1, rfl⟩ := r1
    obtain ⟨t2, rfl⟩ := r2
    have nd : NoDig s.heap := fun M => PySem.W.looks_nsIn I.kIn hd
    exact callType_new F.called_int F.newNe_int (Hx.typeCall_int_2 _ _) (Hx.newCall_int_2 _ _) (fun obj => F.initArgs_range_2 obj _ _) F.entry_int_new (meets_binL (x := SX.S l) (by rw [SX.S_len]; exact hl) hx hne)
      ⟨nd, rfl, ⟨.int ((binNum l : Nat) : Int), H, I.tok _, ⟨_, rfl⟩, q⟩⟩
end Kn.Bi

/-! ### text * int -/
namespace Kn
open PySem PySem.Spec PyProof.Rows L2 Evl SX
def rMulS : R2 := fun x y H Q => ∃ (z : List Nat) (n : Nat), x = .str (S z) ∧ y = .int (n : Int) ∧ n ≤ 100000 ∧ z.length ≤ 100 ∧ Q (.str (S (List.replicate n z).flatten)) H
theorem rep_arr (z : List Nat) : ∀ (n : Nat) (a : Array Nat), ((List.replicate n z.toArray).foldl (· ++ ·) a).toList = a.toList ++ (List.replicate n z).flatten
  | 0, a => by simp
  | n + 1, a => by
    rw [List.replicate_succ, List.foldl_cons, rep_arr z n, List.replicate_succ, List.flatten_cons]
    simp
theorem op_mulS {X : Cx} : OpR X (binaryOp .Mult) rMulS := by
  intro pins s σ H x y v u Q I rx ry h
  obtain ⟨z, n, rfl, rfl, hn, hz, q⟩ := h
  obtain ⟨t, rfl⟩ := rx
  obtain ⟨t2, rfl⟩ := ry
  have hb : z.length * n ≤ 100 * 100000 := Nat.mul_le_mul hz hn
  have e : ((n : Int)).toNat = n := by omega
  have hl : decide ((S z).length * ((n : Int)).toNat > sizeLine) = false := by
    rw [e, S_len]
    exact decide_eq_false (Nat.not_lt.mpr (Nat.le_trans hb (by decide)))
  have p63 : (2 ^ 63 : Int) = 9223372036854775808 := by decide
  have g1 : decide ((n : Int) < -(2 ^ 63 : Int)) = false := decide_eq_false (by rw [p63]; omega)
  have g2 : decide ((n : Int) ≥ (2 ^ 63 : Int)) = false := decide_eq_false (by rw [p63]; omega)
  refine PySem.P.mul_str (by rw [g1, g2]; rfl) (fun h1 h2 => ?_) (fun _ _ => hl) ?_
  · rw [S_len]
    have h3 : ((z.length * n : Nat) : Int) ≤ ((10000000 : Nat) : Int) := Int.ofNat_le.mpr hb
    rw [Int.natCast_mul] at h3
    have h4 := (Int.le_ediv_iff_mul_le (show (0 : Int) < n by omega)).mpr (show ((z.length : Int)) * (n : Int) ≤ 2 ^ 63 - 1 by rw [p63]; omega)
    omega
  · have key : ∀ y : Str, y = S (List.replicate n z).flatten → ∀ t' k, EP X pins σ Q (.str y t') { s with toks := k } := fun y ey t' k => by
      subst ey
      exact ⟨.str (S (List.replicate n z).flatten), H, I.tok k, ⟨t', rfl⟩, q⟩
    split
    · next h1 =>
      have : n = 0 := by omega
      subst this
      exact ⟨by decide, key _ rfl _ _⟩
    · next h1 =>
      split
      · next h2 =>
        refine key _ ?_ _ s.toks
        rw [Bool.or_eq_true, beq_iff_eq, beq_iff_eq, S_len] at h2
        rcases h2 with h2 | h2
        · have : n = 1 := by omega
          subst this
          simp
        · have : z = [] := List.eq_nil_of_length_eq_zero h2
          subst this
          simp
      · rw [e]
        have ez : (⟨(List.replicate n (S z).cps).foldl (· ++ ·) #[]⟩ : Str) = S (List.replicate n z).flatten := by
          refine TL.ext_tl ?_
          show ((List.replicate n z.toArray).foldl (· ++ ·) #[]).toList = (List.replicate n z).flatten
          rw [rep_arr z n #[]]
          rfl
        refine ⟨?_, key _ ez _ _⟩
        rw [ez, S_len]
        simp
        exact Nat.le_trans (by rw [Nat.mul_comm]; exact hb) (by decide)
end Kn
/-! ### several except clauses, each with the same name -/
namespace Kn
open PySem PySem.Spec PyProof.Rows L2
def wManyAs (K : PySem.W.Frag) (i : Nat) (Wout : WX) (D : Ends) : List (Value × (Addr → Value → Option Addr → TS)) → WX
  | [] => Wout
  | (c, ts) :: r => fun cls d σ H => ∃ b, PySem.W.exmOne K cls c = some b ∧
      (b = true → ∀ a, H a = none → ts a cls d { nx := fun σ' H' => D.nx (σ'.set i none) H', rt := D.rt, bk := fun σ' H' => D.bk (σ'.set i none) H', ct := fun σ' H' => D.ct (σ'.set i none) H' } (σ.set i (some (.ref a))) H) ∧
      (b = false → wManyAs K i Wout D r cls d σ H)
inductive HdsAs (X : Cx) (n : Str) : List ExceptHandler → List (Value × (Addr → Value → Option Addr → TS)) → Prop
  | nil : HdsAs X n [] []
  | cons {x : Str} {c : Value} {ts : Addr → Value → Option Addr → TS} {b₀ : Stmt} {suite : List Stmt} {np pos' : Pos} {hds : List ExceptHandler} {l : List (Value × (Addr → Value → Option Addr → TS))} (hc : Names X x c)
      (hsu : ∀ (a : Addr) (oe : Obj) (cls : Value) (d : Option Addr) (pn : List (Addr × Obj)), Zc cls d oe → (∃ vs, oe.data = .fields vs) → PSs (X.suite a ((a, oe) :: pn)) (b₀ :: suite) (ts a cls d)) (r : HdsAs X n hds l) :
      HdsAs X n (.ExceptHandler (some (.Name x np)) (some n) (b₀ :: suite) pos' :: hds) ((c, ts) :: l)
section
variable {X : Cx} {body : List Stmt} {h₀ : ExceptHandler} {hds : List ExceptHandler} {l : List (Value × (Addr → Value → Option Addr → TS))} {pos : Pos} {tb : WX → TS} {Wout : WX} {n : Str} {i : Nat}
theorem ps_try_manyAs (hs : X.stack = X.env :: X.outer) (hf : X.env.frame = some X.env.locals) (hN : X.N.Nodup) (hi : X.N[i]? = some n) (hln : X.env.kindOf n = some .local) (tk : Takes X Wout)
    (hb : ∀ (W : WX) (pn : List (Addr × Obj)) (xe : Value → Shared → Prop), Takes (X.tr pn xe) W → PassesOwn (model X.prog X.w) X.A X.env xe → PSs (X.tr pn xe) body (tb W))
    (hh : HdsAs X n (h₀ :: hds) l) : PS X (.Try body (h₀ :: hds) [] [] pos) (fun D σ H => tb (wManyAs X.K i Wout D l) D σ H) := by
  refine ⟨fun pins s σ H D I h => ?_⟩
  have ok := I.ok
  have hfr : X.A.frames = some (X.env :: X.outer) := by rw [ok.frames, hs]
  have hloc : Loc X.env.scope n := .inl hln
  refine wpAny_Try_except ?_
  refine wpAny_mono ((hb (wManyAs X.K i Wout D l) (X.pn ++ pins) (fun e s₁ => wpAny (model X.prog X.w) X.A (noteFrame e X.env) (fun _ s₂ => wpAny (model X.prog X.w) X.A (setFlight e none) (fun _ s₃ =>
    wpAny (model X.prog X.w) X.A (handleBy e X.env (h₀ :: hds)) (SP X pins D) X.xe s₃) X.xe s₂) X.xe s₁) (fun u s' xx => ?_) PassesOwn.looking).run [] s σ H D (I.toTry _) h) (fun f s1 hsp => ?_) (fun e s1 he => he)
  · obtain ⟨a, B, sI, pins', σ', H', cls, d, rfl, J', nb, up, sky, na, os, ag, w⟩ := xx
    have J : Inv X pins σ' H' sI := J'.ofTry ok
    have sky' : Sky B (X.env :: X.outer) a (Zc cls d) X.env.locals s'.heap := by rw [← hs]; exact sky
    show wpAny (model X.prog X.w) X.A (noteFrame (.ref a) X.env) _ _ _
    refine Sky.land Zc.steady hfr hf sky' fun h3 fl3 up3 => ?_
    have J3 : Inv X pins σ' H' { s' with heap := h3 } := J.landed nb fl3.1 (up.trans up3) os ag
    obtain ⟨oe3, vs3, he3, hz3, hd3⟩ := fl3.there
    have notFr : ∀ {h : Heap} {o : Obj} {vs : Array Value}, h.FunFrames B (X.env :: X.outer) → h.get? a = some o → o.data = .fields vs → a ∉ frs (X.env :: X.outer) := fun {h o vs} ff e dd hm => by
      obtain ⟨_, o', e', hnf⟩ := ff.mem hm
      rw [e] at e'; cases e'
      exact hnf _ dd
    have nfr := notFr fl3.2.2.1 he3 hd3
    have nL : a ≠ X.env.locals := fun z => nfr (List.mem_filterMap.mpr ⟨X.env, List.mem_cons_self, by rw [hf, z]⟩)
    have nF : a ∉ X.fs := fun hm => by
      obtain ⟨e, he, q⟩ := List.mem_filterMap.mp hm
      exact nfr (List.mem_filterMap.mpr ⟨e, List.mem_cons_of_mem _ he, q⟩)
    have S3 := J3.suite he3 hd3 na nL nF
    have go : ∀ {hds' : List ExceptHandler} {l' : List (Value × (Addr → Value → Option Addr → TS))}, HdsAs X n hds' l' → wManyAs X.K i Wout D l' cls d σ' H' →
        wpAny (model X.prog X.w) X.A (handleBy (.ref a) X.env hds') (SP X pins D) X.xe { s' with heap := h3 } := by
      intro hds' l' hk
      induction hk with
      | nil =>
        intro w
        refine wpAny_handleBy_nil ?_
        obtain ⟨k1, k2, k3, oe, vs, T, oT, ts', he, hz, hd, h1, hr⟩ := id fl3
        unfold PySem.passOn
        refine wpAny_bind (wpAny_field he hd h1 ?_)
        rw [if_neg (show ¬ ((Value.ref T == Value.none) = true) from by simp)]
        have fin : wpAny (model X.prog X.w) X.A (setFlight (.ref a) X.env.frame) (fun _ s4 => wpAny (model X.prog X.w) X.A (throw (.ref a) : Sem Flow) (SP X pins D) X.xe s4) X.xe { s' with heap := h3 } := by
          rw [hf]
          refine HandSPX.setFlight_upZ fl3 fun h4 hh4 up4 => wpAny_throw (tk _ _ ?_)
          exact ⟨a, B, sI, pins, σ', H', cls, d, rfl, J, nb, (up.trans up3).trans up4, .inr (.inr (by rw [hs]; exact hh4)), na, os, ag, w⟩
        first
          | exact wpAny_bind (wpAny_pure (wpAny_bind fin))
          | exact wpAny_bind fin
      | @cons x c ts b₀ suite np pos' hds2 l2 hc hsu r ih =>
        intro w
        obtain ⟨b, hb1, hyes, hno⟩ := w
        refine wpAny_handleBy_cons (codeAny_handlers_test ?_) (by intro q; cases q)
        have LT : PySem.W.Looks (model X.prog X.w) h3 (typeOf (.ref a)) cls := fun A Q E s k q => wpAny_typeOf_ref (k _ _ he3) (by rw [hz3.1]; exact q)
        have LM := PySem.W.exm_one (M := model X.prog X.w) (J3.kIn) LT hb1
        have test : ∀ {Q : Value → Shared → Prop} {E : Value → Shared → Prop}, Q c { s' with heap := h3 } → wpAny (model X.prog X.w) (X.A.mark (some (.ref a))) (eval (.Name x np) X.env) Q E { s' with heap := h3 } := fun {Q E} q => by
          obtain ⟨hg, hdbg, hm | ⟨hm, hv, hnn⟩⟩ := hc
          · exact ld_glob (X := X.suite a ((a, oe3) :: (X.pn ++ pins))) S3 hg hm q hdbg
          · exact ld_blt (X := X.suite a ((a, oe3) :: (X.pn ++ pins))) S3 hg hm hv q hnn hdbg
        refine test (LM.here ?_)
        cases b with
        | true =>
          refine codeAny_handlers_suite_as ?_
          refine HandSPX.lands_againZ fl3 fun h4 fl4 up4 => ?_
          have J4 : Inv X pins σ' H' { s' with heap := h4 } := J.landed nb fl4.1 ((up.trans up3).trans up4) os ag
          obtain ⟨oe4, vs4, he4, hz4, hd4⟩ := fl4.there
          have S4 := J4.suite he4 hd4 na nL nF
          refine store_ok (X := X.suite a ((a, oe4) :: (X.pn ++ pins))) (v := .ref a) S4 hN hi hloc rfl (fun s5 S5 => ?_) (.inr hln)
          refine wpAny_mono ((hsu a oe4 cls d (X.pn ++ pins) hz4 ⟨_, hd4⟩).run [] s5 _ H' _ S5 (hyes rfl a na)) (fun f s6 hsp => ?_) (fun _ _ z => False.elim z)
          have end_ : ∀ {σ6 : L2.St} {H6 : Hp} {Q : Shared → Prop}, Inv (X.suite a ((a, oe4) :: (X.pn ++ pins))) [] σ6 H6 s6 → (∀ s7, Inv X pins (σ6.set i none) H6 s7 → Q s7) →
              wpAny (model X.prog X.w) X.A (do bindName X.env n .none; unbindBehindTheSuite X.env n pos') (fun _ s7 => Q s7) X.xe s6 := fun {σ6 H6 Q} S6 hq => gone_ok (S6.unsuite ok) hN hi hln hq
          cases f with
          | next =>
            obtain ⟨σ6, H6, S6, q6⟩ := hsp
            exact end_ S6 fun s7 J7 => ⟨_, _, J7, q6⟩
          | brk =>
            obtain ⟨σ6, H6, S6, q6⟩ := hsp
            exact end_ S6 fun s7 J7 => ⟨_, _, J7, q6⟩
          | cont =>
            obtain ⟨σ6, H6, S6, q6⟩ := hsp
            exact end_ S6 fun s7 J7 => ⟨_, _, J7, q6⟩
          | ret u =>
            obtain ⟨v6, σ6, H6, S6, r6, q6⟩ := hsp
            exact end_ S6 fun s7 J7 => ⟨_, _, _, J7, r6, q6⟩
        | false =>
          show wpAny _ X.A (handleBy (.ref a) X.env hds2) _ _ _
          exact ih (hno rfl)
    exact go hh w
  · cases f with
    | next =>
      obtain ⟨σ', H', J', q⟩ := hsp
      exact wpAny_execs_nil ⟨σ', H', J'.ofTry ok, q⟩
    | brk =>
      obtain ⟨σ', H', J', q⟩ := hsp
      exact ⟨σ', H', J'.ofTry ok, q⟩
    | cont =>
      obtain ⟨σ', H', J', q⟩ := hsp
      exact ⟨σ', H', J'.ofTry ok, q⟩
    | ret u =>
      obtain ⟨v, σ', H', J', r, q⟩ := hsp
      exact ⟨v, σ', H', J'.ofTry ok, r, q⟩
end
/-! ### defs and methods that may raise, called by name; the wish stands at the caller's slots -/
structure ClX (P : Program) (w : World) (K : PySem.W.Frag) (mg : Str → Option Value) (base : Heap) (k : Nat) (x : Str) (sp : Sp) : Prop where
  ex : ∃ (f : Addr) (fd : FuncData) (ps : List Str), FnOk P w K mg base (L2.CX P w) k f fd ps sp ∧ mg x = some (.ref f) ∧ PySem.W.keepIn K (.ref f) = true ∧ Binds K fd ps []
structure MtX (P : Program) (w : World) (K : PySem.W.Frag) (mg : Str → Option Value) (base : Heap) (k : Nat) (C : Addr) (m : Str) (sp : Sp) : Prop where
  ex : ∃ (f : Addr) (fd : FuncData) (ps : List Str), Cls K C ∧ Meth K C m f ∧ FnOk P w K mg base (L2.CX P w) k f fd ps sp ∧ Binds K fd ps []
/-- an own exception class of the program that is made by its own __init__ -/
structure Xk (P : Program) (w : World) (K : PySem.W.Frag) (mg : Str → Option Value) (base : Heap) (k : Nat) (x : Str) (C : Addr) (sp : Sp) : Prop where
  oe : OexC K C
  ex : ∃ (f : Addr) (fd : FuncData) (ps : List Str), PySem.W.findIn K (.ref C) "__init__" = some (some (.ref f)) ∧ PySem.W.typeIn K (.ref f) = some (.type "function") ∧ FnOk P w K mg base CX0 k f fd ps sp ∧ Binds K fd ps [] ∧ mg x = some (.ref C)
section
variable {P : Program} {w : World} {K : PySem.W.Frag} {mg : Str → Option Value} {base : Heap}
theorem clX_of {k : Nat} {x : Str} {sp : Sp} {st : Stmt} {f : Addr} {fd : FuncData} {ps : List Str} (ok : FnOk P w K mg base (L2.CX P w) k f fd ps sp) (F : Fun K x x st f fd) (g : mg x = some (.ref f)) (b : Binds K fd ps []) : ClX P w K mg base k x sp := ⟨f, fd, ps, ok, g, F.kp, b⟩
end
def tMethX (C : Addr) (m : Str) (sp : Sp) (E : L2.St → XK) (ta : TE) (t : TA) : TE := fun σ H Q => ta σ H fun x H1 => ∃ a dx fs, x = .ref a ∧ H1 a = some (.ins C dx fs) ∧ fs.lookup m = none ∧ t σ H1 fun vs H2 => sp (.ref a :: vs) H2 Q (E σ)
section
variable {X : Cx} {W : WX} {k j : Nat} {x m : Str} {sp : Sp} {p pos apos : Pos} {e o : Expr} {es : List Expr} {ta : TE} {t : TA} {C : Addr}
theorem pe_clX (c : ClX X.prog X.w X.K X.mg X.base k x sp) (hr : Room j X.A) (hk : k ≤ j) (hg : Gl X x) (tk : Takes X W) (ha : PA X (e :: es) t)
    (hdb : (x == ("__debug__" : Str)) = false := by decide) (he : starEach (e :: es) X.env = (false, eval e X.env) :: starEach es X.env := by rfl) (hpl : (backTo pos (starEach es X.env)).any (·.1) = false := by rfl) :
    PE X (.Call (.Name x p) (e :: es) [] pos) (tCallS sp (WE W) t) := by
  obtain ⟨f, fd, ps, F, hm, kp, b⟩ := c.ex
  exact pe_callS F (hr.mono hk) hg hm kp b (fun σ => passAt tk σ) ha hdb he hpl
theorem pe_mtX {pl : Sem Bool} (c : MtX X.prog X.w X.K X.mg X.base k C m sp) (hr : Room j X.A) (hk : k ≤ j) (tk : Takes X W) (he : PE X o ta) (ha : PA X (e :: es) t)
    (hst : starEach (e :: es) X.env = (false, eval e X.env) :: starEach es X.env := by rfl) (hpl : (backTo pos (starEach es X.env)).any (·.1) = false := by rfl)
    (ht : eval (.Call (.Attribute o m apos) (e :: es) [] pos) X.env = (do
      let ov ← eval o X.env
      standAt apos.atName
      let (f, first) ← holding [ov] (getMethod ov m pl)
      callWith pos f first (backTo pos (starEach (e :: es) X.env)) (backToKw pos (keywordEach [] X.env))) := by rfl) :
    PE X (.Call (.Attribute o m apos) (e :: es) [] pos) (tMethX C m sp (WE W) ta t) := by
  obtain ⟨f, fd, ps, hc, hm, F, b⟩ := c.ex
  refine ⟨fun pins s σ H Q I h => ?_⟩
  refine PySem.W.methodCall_KW (pl := pl) (thn (he.run pins s σ H _ I h) fun u s1 ⟨x, H1, I1, rx, a, dx, fs, ex, ea, l, q⟩ => ?_) ht
  subst ex
  obtain rfl : u = Value.ref a := rx
  refine getmeth_ok I1 ea hc hm l ?_
  refine PySem.W.callWith_K (first := [.ref a]) (h₀ := X.base) I.ok.mod.kin hm.kp (thn (ha.run pos pins s1 σ H1 _ I1 q) fun us s2 ⟨vs, H2, I2, r, q2⟩ => ⟨I2.kIn, ?_⟩) hst hpl
  exact run_fnS (us := .ref a :: us) (vs := .ref a :: vs) F (hr.mono hk) b (passAt tk σ) I2 (.cons rfl r) q2
/-- raise C(e, ..) -/
theorem ps_xk (c : Xk X.prog X.w X.K X.mg X.base k x C sp) (hr : Room j X.A) (hk : k + 1 ≤ j) (hc : X.calm = true) (tk : Takes X W) (hg : Gl X x) (ha : PA X (e :: es) t)
    (hdb : (x == ("__debug__" : Str)) = false := by decide) (he : starEach (e :: es) X.env = (false, eval e X.env) :: starEach es X.env := by rfl) (hpl : (backTo pos (starEach es X.env)).any (·.1) = false := by rfl) :
    PS X (.Raise (some (.Call (.Name x p) (e :: es) [] pos)) none apos) (fun _ σ H => tMkO C sp [] t σ H (fun cls d H' => W cls d σ H')) := by
  obtain ⟨fI, fd, ps, iC, tI, F, b, gC⟩ := c.ex
  exact ps_raise hc tk (pmk_oex c.oe iC tI F (hr.mono hk) b .nil pass0 hg gC ha hdb he hpl)
end
end Kn
/-! ### own exceptions: facts, f-strings, __init__ with one field and with four, raising -/
namespace Kn
open PySem PySem.Spec PyProof.Rows L2 Evl SX
section
variable {K : PySem.W.Frag}
theorem kit_ref {C B : Addr} {b : Bool} (hd : PySem.W.hasDictIn K B = true) (ht : PySem.W.typeIn K (.ref B) = some (.type "type")) (hs : PySem.W.subIn K (.ref C) (.ref B) = some b) (hcc : PySem.W.subIn K (.ref C) (.ref C) = some true) : PySem.W.kitOne K (.ref C) (.ref B) = some b := by
  unfold PySem.W.kitOne
  by_cases h : C = B
  · subst h
    rw [if_pos (beq_self_eq_true _)]
    exact hcc.symm.trans hs
  · rw [if_neg (fun z => h (Value.ref.inj (beq_iff_eq.mp z)))]
    obtain ⟨cd, hc, _⟩ := PySem.W.any_some hd
    show (if ((PySem.W.clsIn K B).isSome && PySem.W.typeIn K (.ref B) == some (.type "type")) = true then PySem.W.subIn K (.ref C) (.ref B) else none) = some b
    rw [if_pos (by rw [hc, ht]; rfl)]
    exact hs
structure Xc (K : PySem.W.Frag) (C B : Addr) : Prop where
  oe : OexC K C
  xc : ExcC K C
  xf : XfC K C
  me : PySem.W.exmOne K (.ref C) (.ref C) = some true
  kB : PySem.W.kitOne K (.ref C) (.ref B) = some true
end
section
variable {K : PySem.W.Frag} {σ : L2.St} {H H' H1 : Hp} {te t1 t2 t3 t4 : TE}
theorem ev_fmtS {l : List Nat} (h : Ev te σ H (.str (S l))) (hl : l.length ≤ 100000) : Ev (tFmt te) σ H (.str (S l)) := fun H1 e Q q => h H1 e _ fun H2 e2 => .inl ⟨S l, rfl, by rw [S_len]; exact sz_of hl, q H2 e2⟩
theorem ev_fmtI {n : Nat} (h : Ev te σ H (.int (n : Int))) (hn : n < 10 ^ 9) : Ev (tFmt te) σ H (.str (S (TL.numL n))) := fun H1 e Q q => h H1 e _ fun H2 e2 => .inr ⟨(n : Int), rfl, by
  rw [Int.natAbs_natCast]
  have : n.log2 < 100 := by
    by_cases h0 : n = 0
    · subst h0
      decide
    · exact (Nat.log2_lt h0).mpr (Nat.lt_trans hn (by decide))
  omega, by
  have z := num_S n
  rw [← z] at q
  exact q H2 e2⟩
theorem js_run : ∀ {ts : List TE} {ls : List (List Nat)}, Paired (fun t l => Ev t σ H (.str (S l))) ts ls → ∀ (acc : List Nat) (H1 : Hp), Ex H H1 → acc.length + (ls.map (·.length)).sum ≤ 100000 → ∀ Q : Str → Hp → Prop, (∀ H2, Ex H1 H2 → Q (S (acc ++ ls.flatten)) H2) → tJs ts (S acc) σ H1 Q
  | [], [], .nil, acc, H1, e, _, Q, q => by
    rw [List.flatten_nil, List.append_nil] at q
    exact q H1 (Ex.refl H1)
  | t :: ts, l :: ls, .cons h r, acc, H1, e, hz, Q, q => h H1 e _ fun H2 e2 => by
    rw [List.map_cons, List.sum_cons] at hz
    refine ⟨S l, rfl, ?_, ?_⟩
    · rw [S_cat, S_len, List.length_append]
      exact sz_of (by omega)
    · rw [S_cat]
      refine js_run r (acc ++ l) H2 (e.trans e2) (by rw [List.length_append]; omega) Q fun H3 e3 => ?_
      rw [List.append_assoc, ← List.flatten_cons]
      exact q H3 (e2.trans e3)
theorem ev_js {ts : List TE} {ls : List (List Nat)} (h : Paired (fun t l => Ev t σ H (.str (S l))) ts ls) (hz : (ls.map (·.length)).sum ≤ 100000) : Ev (fun σ H Q => tJs ts Str.empty σ H fun out H1 => Q (.str out) H1) σ H (.str (S ls.flatten)) := fun H1 e Q q => by
  have z : Str.empty = S [] := rfl
  show tJs ts Str.empty σ H1 _
  rw [z]
  exact js_run h [] H1 e (by rw [List.length_nil]; omega) _ fun H2 e2 => q H2 e2
/-- Base.__init__(self, text) -/
theorem q_beinit {D : Ends} {tz : TS} {a C : Addr} {ta tb : TE} {l : List Nat} (ha : Ev ta σ H (.ref a)) (hb : Ev tb σ H (.str (S l))) (oe : OexC K C) (ho : H a = some (exo a C none)) (k : ∀ H1, Ex H H1 → tz D σ H1) : tSeq (tDrop (tVeI K (tCons ta (tCons tb tNil)))) tz D σ H :=
  ha H (Ex.refl H) _ fun H1 e1 => hb H1 e1 _ fun H2 e2 => ⟨a, C, [.str (S l)], rfl, (by show 1 ≤ 1000; decide), oe, e2 _ _ (e1 _ _ ho), k H2 (e1.trans e2)⟩
/-- an exception's new dict at dx: the fields -/
def XMade (H H' : Hp) (a C dx : Addr) (fs : List (Str × V)) : Prop := H' a = some (exo a C (some dx)) ∧ H' dx = some (exd dx fs) ∧ ∀ b o, b ≠ a → b ≠ dx → H b = some o → H' b = some o
def sp_I1 (f : Str) (K : PySem.W.Frag) : Sp := fun vs H Q _ => ∃ (a C : Addr) (l : List Nat), vs = [.ref a, .str (S l)] ∧ l.length ≤ 90000 ∧ H a = some (exo a C none) ∧ OexC K C ∧ PySem.W.findIn K (.ref C) f = some none ∧
  ∀ dx H', H dx = none → dx ≠ a → XMade H H' a C dx [(f, .str (S l))] → Q .non H'
theorem xmade_new {a C dx : Addr} {f : Str} {v : V} (e : Ex H H1) (ne : dx ≠ a) : XMade H (upd (upd H1 dx (exd dx [(f, v)])) a (exo a C (some dx))) a C dx [(f, v)] :=
  ⟨upd_same, by rw [upd_ne ne, upd_same], fun b o h1 h2 h => by rw [upd_ne h1, upd_ne h2]; exact e _ _ h⟩
theorem XMade.more {a C dx : Addr} {fs : List (Str × V)} {f : Str} {v : V} (m : XMade H H1 a C dx fs) (ne : dx ≠ a) (e : Ex H1 H') : XMade H (upd H' dx (exd dx ((f, v) :: fs))) a C dx ((f, v) :: fs) :=
  ⟨by rw [upd_ne (Ne.symm ne)]; exact e _ _ m.1, upd_same, fun b o h1 h2 h => by rw [upd_ne h2]; exact e _ _ (m.2.2 b o h1 h2 h)⟩
theorem xm_raise {W : WX} {a C dx : Addr} {fs : List (Str × V)} {H2 : Hp} (e2 : Ex H H2) (na : H2 a = none) (nd : H2 dx = none) (m : XMade (upd H2 a (exo a C none)) H' a C dx fs) (hk : ∀ d H', Ex H H' → H' d = some (.xd fs) → W (.ref C) (some d) σ H') : W (.ref C) (some dx) σ (upd (del H' a) dx (.xd fs)) := by
  refine hk dx _ (fun b o hb => ?_) upd_same
  have hb2 := e2 _ _ hb
  have n1 := ne_of_none hb2 nd
  have n2 := ne_of_none hb2 na
  rw [upd_ne n1, del_ne n2]
  exact m.2.2 b o n2 n1 (by rw [upd_ne n2]; exact hb2)
theorem raise1 {W : WX} {C : Addr} {f : Str} {l : List Nat} (oe : OexC K C) (nf : PySem.W.findIn K (.ref C) f = some none) (hl : l.length ≤ 90000) (hv : Ev te σ H (.str (S l)))
    (hk : ∀ d H', Ex H H' → H' d = some (.xd [(f, .str (S l))]) → W (.ref C) (some d) σ H') : tMkO C (sp_I1 f K) [] (tCons te tNil) σ H (fun cls d H' => W cls d σ H') :=
  hv H (Ex.refl _) _ fun H2 e2 => ⟨(by show 1 ≤ 1000; decide), fun a na => ⟨a, C, l, rfl, hl, upd_same, oe, nf, fun dx H' hdx ne m =>
    ⟨rfl, dx, _, m.1, m.2.1, upd_none hdx, xm_raise e2 na (upd_none hdx) m hk⟩⟩⟩
theorem init1_body {D : Ends} {f : Str} {a C : Addr} {l m : List Nat} {tj : TE} (hj : Ev tj [some (.ref a), some (.str (S l))] H (.str (S m))) (ha : H a = some (exo a C none)) (oe : OexC K C) (nf : PySem.W.findIn K (.ref C) f = some none)
    (q : ∀ dx H', H dx = none → dx ≠ a → XMade H H' a C dx [(f, .str (S l))] → D.nx [some (.ref a), some (.str (S l))] H') : tSeq (tDrop (tVeI K (tCons (tVar 0) (tCons tj tNil)))) (tOst K f (tVar 0) (tVar 1)) D [some (.ref a), some (.str (S l))] H := by
  refine q_beinit (ev_var rfl) hj oe ha fun H1 e1 => ?_
  exact ⟨_, rfl, _, rfl, a, C, rfl, oe, nf, .inl ⟨e1 _ _ ha, fun dx hd ne => q dx _ (fresh_back e1 hd) ne (xmade_new e1 ne)⟩⟩
/-- path, line, column, reason -/
def fs4 (p : List Nat) (n c : Nat) (r : List Nat) : List (Str × V) := [("reason", .str (S r)), ("column", .int (c : Int)), ("line", .int (n : Int)), ("path", .str (S p))]
structure Nf4 (K : PySem.W.Frag) (C : Addr) : Prop where
  p : PySem.W.findIn K (.ref C) "path" = some none
  l : PySem.W.findIn K (.ref C) "line" = some none
  c : PySem.W.findIn K (.ref C) "column" = some none
  r : PySem.W.findIn K (.ref C) "reason" = some none
def Sm4 (p : List Nat) (n c : Nat) (r : List Nat) : Prop := p.length ≤ 9000 ∧ r.length ≤ 9000 ∧ n < 10 ^ 9 ∧ c < 10 ^ 9
def sp_I4 (K : PySem.W.Frag) : Sp := fun vs H Q _ => ∃ (a C : Addr) (p : List Nat) (n c : Nat) (r : List Nat), vs = [.ref a, .str (S p), .int (n : Int), .int (c : Int), .str (S r)] ∧ Sm4 p n c r ∧ H a = some (exo a C none) ∧ OexC K C ∧ Nf4 K C ∧
  ∀ dx H', H dx = none → dx ≠ a → XMade H H' a C dx (fs4 p n c r) → Q .non H'
theorem raise4 {W : WX} {C : Addr} {p r : List Nat} {n c : Nat} (oe : OexC K C) (nf : Nf4 K C) (hl : Sm4 p n c r) (h1 : Ev t1 σ H (.str (S p))) (h2 : Ev t2 σ H (.int (n : Int))) (h3 : Ev t3 σ H (.int (c : Int))) (h4 : Ev t4 σ H (.str (S r)))
    (hk : ∀ d H', Ex H H' → H' d = some (.xd (fs4 p n c r)) → W (.ref C) (some d) σ H') : tMkO C (sp_I4 K) [] (tCons t1 (tCons t2 (tCons t3 (tCons t4 tNil)))) σ H (fun cls d H' => W cls d σ H') :=
  ea_cons h1 (ea_cons h2 (ea_cons h3 (ea_cons h4 ea_nil))) H (Ex.refl _) _ fun H2 e2 => ⟨(by show 4 ≤ 1000; decide), fun a na => ⟨a, C, p, n, c, r, rfl, hl, upd_same, oe, nf, fun dx H' hdx ne m =>
    ⟨rfl, dx, _, m.1, m.2.1, upd_none hdx, xm_raise e2 na (upd_none hdx) m hk⟩⟩⟩
theorem init4_body {D : Ends} {a C : Addr} {p r m : List Nat} {n c : Nat} {tj : TE} {σ0 : L2.St} (hσ : σ0 = [some (.ref a), some (.str (S p)), some (.int (n : Int)), some (.int (c : Int)), some (.str (S r))]) (hj : Ev tj σ0 H (.str (S m))) (ha : H a = some (exo a C none)) (oe : OexC K C) (nf : Nf4 K C)
    (q : ∀ dx H', H dx = none → dx ≠ a → XMade H H' a C dx (fs4 p n c r) → D.nx σ0 H') : tSeq (tDrop (tVeI K (tCons (tVar 0) (tCons tj tNil)))) (tSeq (tOst K "path" (tVar 0) (tVar 1)) (tSeq (tOst K "line" (tVar 0) (tVar 2)) (tSeq (tOst K "column" (tVar 0) (tVar 3)) (tOst K "reason" (tVar 0) (tVar 4))))) D σ0 H := by
  subst hσ
  refine q_beinit (ev_var rfl) hj oe ha fun H1 e1 => ?_
  refine ⟨_, rfl, _, rfl, a, C, rfl, oe, nf.p, .inl ⟨e1 _ _ ha, fun dx hd ne => ?_⟩⟩
  have m1 := xmade_new (C := C) (f := "path") (v := .str (S p)) e1 ne
  refine ⟨_, rfl, _, rfl, a, C, rfl, oe, nf.l, .inr ⟨dx, _, m1.1, m1.2.1, (by show 1 ≤ 900; decide), ?_⟩⟩
  have m2 := m1.more (f := "line") (v := .int (n : Int)) ne (Ex.refl _)
  refine ⟨_, rfl, _, rfl, a, C, rfl, oe, nf.c, .inr ⟨dx, _, m2.1, m2.2.1, (by show 2 ≤ 900; decide), ?_⟩⟩
  have m3 := m2.more (f := "column") (v := .int (c : Int)) ne (Ex.refl _)
  refine ⟨_, rfl, _, rfl, a, C, rfl, oe, nf.r, .inr ⟨dx, _, m3.1, m3.2.1, (by show 3 ≤ 900; decide), ?_⟩⟩
  exact q dx _ (fresh_back e1 hd) ne (m3.more ne (Ex.refl _))
end
end Kn
/-! ### data at any depth, all of it tracked -/
namespace Kn
open PySem PySem.Spec PyProof.Rows L2 Evl SX
mutual
inductive Dt (H : Hp) : V → PyData → Prop
  | non : Dt H .non .none
  | bl (b : Bool) : Dt H (.bl b) (.bool b)
  | int (i : Int) : Dt H (.int i) (.int i)
  | str (x : Str) : Dt H (.str x) (.str x)
  | lst {a : Addr} {xs : List V} {ds : List PyData} : H a = some (.lst xs) → DtA H xs ds → Dt H (.ref a) (.list ds)
  | tup {a : Addr} {xs : List V} {ds : List PyData} : H a = some (.tup xs) → DtA H xs ds → Dt H (.ref a) (.tuple ds)
inductive DtA (H : Hp) : List V → List PyData → Prop
  | nil : DtA H [] []
  | cons {v : V} {vs : List V} {d : PyData} {ds : List PyData} : Dt H v d → DtA H vs ds → DtA H (v :: vs) (d :: ds)
end
mutual
theorem Dt.mono {H H1 : Hp} (e : Ex H H1) : ∀ {v : V} {d : PyData}, Dt H v d → Dt H1 v d
  | _, _, .non => .non
  | _, _, .bl b => .bl b
  | _, _, .int i => .int i
  | _, _, .str x => .str x
  | _, _, .lst h r => .lst (e _ _ h) (DtA.mono e r)
  | _, _, .tup h r => .tup (e _ _ h) (DtA.mono e r)
theorem DtA.mono {H H1 : Hp} (e : Ex H H1) : ∀ {vs : List V} {ds : List PyData}, DtA H vs ds → DtA H1 vs ds
  | _, _, .nil => .nil
  | _, _, .cons h r => .cons (Dt.mono e h) (DtA.mono e r)
end
mutual
theorem Dt.dp {K : PySem.W.Frag} {H : Hp} : ∀ {v : V} {d : PyData}, Dt H v d → Dp K H v d
  | _, _, .non => .non
  | _, _, .bl b => .bl b
  | _, _, .int i => .int i
  | _, _, .str x => .str x
  | _, _, .lst h r => .lst (sq_of h) (DtA.dp r)
  | _, _, .tup h r => .tup (st_of h) (DtA.dp r)
theorem DtA.dp {K : PySem.W.Frag} {H : Hp} : ∀ {vs : List V} {ds : List PyData}, DtA H vs ds → DpAll K H vs ds
  | _, _, .nil => .nil
  | _, _, .cons h r => .cons (Dt.dp h) (DtA.dp r)
end
mutual
/-- no list in it -/
def noL : PyData → Bool
  | .list _ => false
  | .dict _ => false
  | .tuple ds => noLA ds
  | .none => true
  | .bool _ => true
  | .int _ => true
  | .str _ => true
def noLA : List PyData → Bool
  | [] => true
  | d :: ds => noL d && noLA ds
end
mutual
/-- what has no list in it does not see that a list changes -/
theorem Dt.upd {H : Hp} {p : Addr} {o o' : HO} (hp : H p = some o) (ho : ∀ xs, o ≠ .tup xs) : ∀ {v : V} {d : PyData}, Dt H v d → noL d = true → Dt (L2.upd H p o') v d
  | _, _, .non, _ => .non
  | _, _, .bl b, _ => .bl b
  | _, _, .int i, _ => .int i
  | _, _, .str x, _ => .str x
  | _, _, .lst _ _, h => by
    unfold noL at h
    cases h
  | _, _, .tup h r, n => by
    unfold noL at n
    exact .tup (by rw [upd_ne (ne_of h hp fun z => ho _ z.symm)]; exact h) (DtA.upd hp ho r n)
theorem DtA.upd {H : Hp} {p : Addr} {o o' : HO} (hp : H p = some o) (ho : ∀ xs, o ≠ .tup xs) : ∀ {vs : List V} {ds : List PyData}, DtA H vs ds → noLA ds = true → DtA (L2.upd H p o') vs ds
  | _, _, .nil, _ => .nil
  | _, _, .cons h r, n => by
    unfold noLA at n
    rw [Bool.and_eq_true] at n
    exact .cons (Dt.upd hp ho h n.1) (DtA.upd hp ho r n.2)
end
theorem DtA.len {H : Hp} : ∀ {vs : List V} {ds : List PyData}, DtA H vs ds → vs.length = ds.length
  | _, _, .nil => rfl
  | _, _, .cons _ r => by rw [List.length_cons, List.length_cons, DtA.len r]
theorem DtA.snoc {H : Hp} {v : V} {d : PyData} (h : Dt H v d) : ∀ {vs : List V} {ds : List PyData}, DtA H vs ds → DtA H (vs ++ [v]) (ds ++ [d])
  | _, _, .nil => .cons h .nil
  | _, _, .cons a r => .cons a (DtA.snoc h r)
theorem DtA.app {H : Hp} {vs2 : List V} {ds2 : List PyData} (h : DtA H vs2 ds2) : ∀ {vs : List V} {ds : List PyData}, DtA H vs ds → DtA H (vs ++ vs2) (ds ++ ds2)
  | _, _, .nil => h
  | _, _, .cons a r => .cons a (DtA.app h r)
theorem DtA.get {H : Hp} : ∀ {vs : List V} {ds : List PyData}, DtA H vs ds → ∀ (i : Nat) (d : PyData), ds[i]? = some d → ∃ v, vs[i]? = some v ∧ Dt H v d
  | _, _, .cons (v := v) h r, 0, d', e => by
    cases Option.some.inj e
    exact ⟨v, rfl, h⟩
  | _, _, .cons h r, i + 1, d', e => by
    obtain ⟨v, e1, h1⟩ := DtA.get r i d' (by simpa using e)
    exact ⟨v, by simpa using e1, h1⟩
  | _, _, .nil, _, _, e => by simp at e
theorem DtA.drop {H : Hp} : ∀ {vs : List V} {ds : List PyData} (n : Nat), DtA H vs ds → DtA H (vs.drop n) (ds.drop n)
  | _, _, 0, h => h
  | _, _, n + 1, .nil => .nil
  | _, _, n + 1, .cons _ r => DtA.drop n r
theorem Dt.tup_inv {H : Hp} {v : V} {ds : List PyData} (h : Dt H v (.tuple ds)) : ∃ a xs, v = .ref a ∧ H a = some (.tup xs) ∧ DtA H xs ds := by
  cases h with
  | tup h r => exact ⟨_, _, rfl, h, r⟩
theorem Dt.lst_inv {H : Hp} {v : V} {ds : List PyData} (h : Dt H v (.list ds)) : ∃ a xs, v = .ref a ∧ H a = some (.lst xs) ∧ DtA H xs ds := by
  cases h with
  | lst h r => exact ⟨_, _, rfl, h, r⟩
theorem Dt.str_inv {H : Hp} {v : V} {x : Str} (h : Dt H v (.str x)) : v = .str x := by cases h; rfl
theorem Dt.int_inv {H : Hp} {v : V} {x : Int} (h : Dt H v (.int x)) : v = .int x := by cases h; rfl
theorem Dt.bl_inv {H : Hp} {v : V} {x : Bool} (h : Dt H v (.bool x)) : v = .bl x := by cases h; rfl
theorem Dt.non_inv {H : Hp} {v : V} (h : Dt H v .none) : v = .non := by cases h; rfl
def EvD (te : TE) (σ : L2.St) (H : Hp) (d : PyData) : Prop := ∀ H1, Ex H H1 → ∀ Q : VK, (∀ v H2, Ex H1 H2 → Dt H2 v d → Q v H2) → te σ H1 Q
def EvDA (ta : TA) (σ : L2.St) (H : Hp) (ds : List PyData) : Prop := ∀ H1, Ex H H1 → ∀ Q : List V → Hp → Prop, (∀ vs H2, Ex H1 H2 → DtA H2 vs ds → Q vs H2) → ta σ H1 Q
def RtD (H : Hp) (d : PyData) (Q : VK) : Prop := ∀ v H1, Ex H H1 → Dt H1 v d → Q v H1
theorem RtD.mono {H H1 : Hp} {d : PyData} {Q : VK} (q : RtD H d Q) (e : Ex H H1) : RtD H1 d Q := fun v H2 e2 h => q v H2 (e.trans e2) h
section
variable {K : PySem.W.Frag} {σ : L2.St} {H H' : Hp} {ta tb te : TE} {t u : TT} {x y z v : V} {d e' : PyData} {tas tr : TA} {D : Ends} {tz tu : TS} {ds : List PyData}
theorem evd_of (h : Ev te σ H v) (hd : Dt H v d) : EvD te σ H d := fun H1 e Q q => h H1 e _ fun H2 e2 => q v H2 e2 (hd.mono (e.trans e2))
theorem evd_is (h : EvD te σ H d) (e : d = e') : EvD te σ H e' := by rw [← e]; exact h
theorem EvD.mono (e : Ex H H') (h : EvD te σ H d) : EvD te σ H' d := fun H1 a Q q => h H1 (e.trans a) Q q
theorem evd_str {l : List Nat} (h : Ev te σ H (.str (S l))) : EvD te σ H (.str (S l)) := evd_of h (.str _)
theorem evd_int {i : Int} (h : Ev te σ H (.int i)) : EvD te σ H (.int i) := evd_of h (.int _)
theorem evd_bl {b : Bool} (h : Ev te σ H (.bl b)) : EvD te σ H (.bool b) := evd_of h (.bl _)
theorem evd_cS {s : Str} {l : List Nat} (h : s.cps.toList = l) : EvD (tC (.str s)) σ H (.str (S l)) := evd_str (ev_cS h)
theorem ev_ofS {l : List Nat} (h : EvD te σ H (.str (S l))) : Ev te σ H (.str (S l)) := fun H1 e Q q => h H1 e _ fun v H2 e2 hv => by
  rw [hv.str_inv]
  exact q H2 e2
theorem ev_ofI {i : Int} (h : EvD te σ H (.int i)) : Ev te σ H (.int i) := fun H1 e Q q => h H1 e _ fun v H2 e2 hv => by
  rw [hv.int_inv]
  exact q H2 e2
theorem eda_nil : EvDA tNil σ H [] := fun H1 _ _ q => q [] H1 (Ex.refl H1) .nil
theorem eda_cons (h : EvD te σ H d) (hr : EvDA tr σ H ds) : EvDA (tCons te tr) σ H (d :: ds) := fun H1 e Q q => h H1 e _ fun v H2 e2 hv => hr H2 (e.trans e2) _ fun vs H3 e3 hvs => q _ H3 (e2.trans e3) (.cons (hv.mono e3) hvs)
theorem evd_tup (h : EvDA tas σ H ds) (hl : ds.length ≤ 100000) : EvD (tTup tas) σ H (.tuple ds) := fun H1 e Q q => h H1 e _ fun vs H2 e2 hvs => ⟨by rw [hvs.len]; exact sz_of hl, fun p hp => q _ _ (e2.trans (Ex.new hp)) (.tup upd_same (hvs.mono (Ex.new hp)))⟩
theorem evd_lst (h : EvDA tas σ H ds) (hl : ds.length ≤ 100000) : EvD (tLst tas) σ H (.list ds) := fun H1 e Q q => h H1 e _ fun vs H2 e2 hvs => ⟨by rw [hvs.len]; exact sz_of hl, fun p hp => q _ _ (e2.trans (Ex.new hp)) (.lst upd_same (hvs.mono (Ex.new hp)))⟩
theorem ev_eqD (ha : EvD ta σ H d) (hb : EvD tb σ H e') (s1 : SeqAt.shaped d = true) (s2 : SeqAt.shaped e' = true) : Ev (tOp (rEqD K) ta tb) σ H (.bl (PyData.eqv d e')) := fun H1 e Q q =>
  ha H1 e _ fun v H2 e2 hv => hb H2 (e.trans e2) _ fun w H3 e3 hw => ⟨d, e', (hv.mono e3).dp, hw.dp, s1, s2, q H3 (e2.trans e3)⟩
theorem ev_neD (ha : EvD ta σ H d) (hb : EvD tb σ H e') (s1 : SeqAt.shaped d = true) (s2 : SeqAt.shaped e' = true) : Ev (tOp (rNeD K) ta tb) σ H (.bl (!PyData.eqv d e')) := fun H1 e Q q =>
  ha H1 e _ fun v H2 e2 hv => hb H2 (e.trans e2) _ fun w H3 e3 hw => ⟨d, e', (hv.mono e3).dp, hw.dp, s1, s2, q H3 (e2.trans e3)⟩
theorem evd_ifE {b : Bool} (h : EvT t σ H b) (h1 : b = true → EvD ta σ H d) (h2 : b = false → EvD tb σ H d) : EvD (tIf t ta tb) σ H d := fun H1 e Q q => h H1 e _ fun H2 e2 => by
  cases b with
  | true =>
    show ta σ H2 Q
    exact h1 rfl H2 (e.trans e2) Q fun v H3 e3 hv => q v H3 (e2.trans e3) hv
  | false =>
    show tb σ H2 Q
    exact h2 rfl H2 (e.trans e2) Q fun v H3 e3 hv => q v H3 (e2.trans e3) hv
theorem evd_call {sp : Sp} {E : XK} {vs : List V} (h : EvA tas σ H vs) (hs : ∀ H1, Ex H H1 → ∀ (Q : VK), RtD H1 d Q → ∀ E, sp vs H1 Q E) : EvD (tCall sp [] E tas) σ H d := fun H1 e Q q => h H1 e _ fun H2 e2 => by
  rw [List.append_nil]
  exact hs H2 (e.trans e2) Q (fun v H3 e3 hv => q v H3 (e2.trans e3) hv) E
theorem evd_callD {sp : Sp} {E : XK} {es : List PyData} (h : EvDA tas σ H es) (hs : ∀ H1 vs, Ex H H1 → DtA H1 vs es → ∀ (Q : VK), RtD H1 d Q → ∀ E, sp vs H1 Q E) : EvD (tCall sp [] E tas) σ H d := fun H1 e Q q => h H1 e _ fun vs H2 e2 hvs => by
  rw [List.append_nil]
  exact hs H2 vs (e.trans e2) hvs Q (fun v H3 e3 hv => q v H3 (e2.trans e3) hv) E
theorem s_retD (h : EvD te σ H d) (k : RtD H d D.rt) : tRet te D σ H := h H (Ex.refl H) _ fun v H1 e hv => k v H1 e hv
theorem s_asgD {i : Nat} (h : EvD te σ H d) (k : ∀ v H1, Ex H H1 → Dt H1 v d → D.nx (σ.set i (some v)) H1) : tAsg te (gName i) D σ H := h H (Ex.refl H) _ fun v H1 e hv => k v H1 e hv
theorem q_asgD {i : Nat} (h : EvD te σ H d) (k : ∀ v H1, Ex H H1 → Dt H1 v d → tz D (σ.set i (some v)) H1) : tSeq (tAsg te (gName i)) tz D σ H := s_asgD (D := { D with nx := tz D }) h k
theorem evd_ixT {p : Addr} {xs : List V} {i : Nat} {j : Int} (ha : Ev ta σ H (.ref p)) (hp : H p = some (.tup xs)) (hx : DtA H xs ds) (hb : Ev tb σ H (.int j)) (hj : j = (i : Int)) (hd : ds[i]? = some d) : EvD (tOp (rIxT K) ta tb) σ H d := by
  obtain ⟨v, hv, hdv⟩ := hx.get i d hd
  subst hj
  exact evd_of (ev_op ha hb (rv_ixT (st_of hp) (atI_nat hv))) hdv
theorem evd_ixL {p : Addr} {xs : List V} {i : Nat} {j : Int} (ha : Ev ta σ H (.ref p)) (hp : H p = some (.lst xs)) (hx : DtA H xs ds) (hb : Ev tb σ H (.int j)) (hj : j = (i : Int)) (hd : ds[i]? = some d) : EvD (tOp (rIxL K) ta tb) σ H d := by
  obtain ⟨v, hv, hdv⟩ := hx.get i d hd
  subst hj
  exact evd_of (ev_op ha hb (rv_ixL (sq_of hp) (atI_nat hv))) hdv
end
/-- strings as data -/
def okS (l : List Nat) : Bool := l.all fun c => decide (c < 1114112)
theorem canS {l : List Nat} (h : okS l = true) : PyData.canLay0 (.str (S l)) = true := by
  unfold PyData.canLay0 PyData.strOk
  rw [show (S l).cps = l.toArray from rfl]
  simpa [okS] using h
theorem eqv_str (a b : List Nat) : PyData.eqv (.str (S a)) (.str (S b)) = decide (a = b) := by
  unfold PyData.eqv
  by_cases h : a = b
  · subst h
    simp
  · rw [decide_eq_false h]
    exact beq_eq_false_iff_ne.mpr fun z => h (S_inj z)
end Kn
/-! ### sorted texts -/
namespace Kn
open PySem PySem.Spec PyProof.Rows L2 Evl SX
def leS (a b : Str) : Prop := a.cps.toList ≤ b.cps.toList
theorem rising_pw : ∀ (r : List Str) (x : Str), risingS x r = true → List.Pairwise leS (x :: r)
  | [], x, _ => by simp
  | y :: r, x, h => by
    unfold risingS at h
    rw [Bool.and_eq_true] at h
    have hxy : leS x y := List.not_lt.mp fun z => by
      have h1 := h.1
      rw [PyProof.Rows.ltCps_eq, decide_eq_true z] at h1
      cases h1
    have ih := rising_pw r y h.2
    refine List.pairwise_cons.mpr ⟨fun z hz => ?_, ih⟩
    rcases List.mem_cons.mp hz with e | e
    · rw [e]
      exact hxy
    · exact List.le_trans hxy ((List.pairwise_cons.mp ih).1 z e)
theorem sorted_pw {l : List Str} (h : sortedS l = true) : List.Pairwise leS l := by
  cases l with
  | nil => exact .nil
  | cons x r => exact rising_pw r x h
theorem sorted_uniq {l m : List Str} (h1 : sortedS l = true) (h2 : sortedS m = true) (p : l.Perm m) : l = m :=
  List.Perm.eq_of_pairwise (le := leS) (fun a b _ _ x y => TL.ext_tl (List.le_antisymm x y)) (sorted_pw h1) (sorted_pw h2) p
end Kn
namespace Kn
open PySem PySem.Spec PyProof.Rows L2 Evl SX
section
variable {K : PySem.W.Frag} {σ : L2.St} {H H' : Hp} {ta tb td ty te : TE} {t u : TT} {x y z v : V} {d p : Addr} {kvs : List (Key × V)} {k : List Nat}
theorem ev_dnotin (h2 : Ev ty σ H (.str (S k))) (h1 : Ev td σ H (.ref d)) (hd : H d = some (.dK kvs)) : Ev (tDNotIn ty td) σ H (.bl (!(valV kvs (Sum.inr (S k))).isSome)) := fun H1 e Q q =>
  h2 H1 e _ fun H2 e2 => h1 H2 (e.trans e2) _ fun H3 e3 => ⟨d, _, rfl, DGet.k (k := (Sum.inr (S k) : Key)) (((e.trans e2).trans e3) _ _ hd), q H3 (e2.trans e3)⟩
theorem et_dnotin (h2 : Ev ty σ H (.str (S k))) (h1 : Ev td σ H (.ref d)) (hd : H d = some (.dK kvs)) : EvT (tB (tDNotIn ty td)) σ H (!(valV kvs (Sum.inr (S k))).isSome) := et_B (ev_dnotin h2 h1 hd)
/-- text * int -/
theorem rv_mulS {l : List Nat} {n : Nat} (hn : n ≤ 100000) (hl : l.length ≤ 100) : RV rMulS (.str (S l)) (.int (n : Int)) H (.str (S (List.replicate n l).flatten)) := fun H1 _ _ q => ⟨l, n, rfl, rfl, hn, hl, q H1 (Ex.refl H1)⟩
theorem flat_one (n c : Nat) : (List.replicate n [c]).flatten = List.replicate n c := by
  induction n with
  | zero => rfl
  | succ n ih => rw [List.replicate_succ, List.flatten_cons, ih, List.replicate_succ]; rfl
theorem ev_mul1 {s : Str} {c n : Nat} {i : Int} (hs : s.cps.toList = [c]) (h : Ev te σ H (.int i)) (hi : i = (n : Int)) (hn : n ≤ 100000) : Ev (tOp rMulS (tC (.str s)) te) σ H (.str (S (List.replicate n c))) := by
  rw [← flat_one]
  subst hi
  exact ev_op (ev_cS hs) h (rv_mulS hn (by show 1 ≤ 100; decide))
end
end Kn
namespace Kn
open PySem PySem.Spec PyProof.Rows L2 Evl SX
section
variable {K : PySem.W.Frag} {i : Nat} {Wout : WX} {D : Ends} {c cls : Value} {ts : Addr → Value → Option Addr → TS} {l : List (Value × (Addr → Value → Option Addr → TS))} {d : Option Addr} {σ : L2.St} {H : Hp}
theorem many_hit (h : PySem.W.exmOne K cls c = some true) (k : ∀ a, H a = none → ts a cls d { nx := fun σ' H' => D.nx (σ'.set i none) H', rt := D.rt, bk := fun σ' H' => D.bk (σ'.set i none) H', ct := fun σ' H' => D.ct (σ'.set i none) H' } (σ.set i (some (.ref a))) H) :
    wManyAs K i Wout D ((c, ts) :: l) cls d σ H := ⟨true, h, (fun _ a na => k a na), (fun z => nomatch z)⟩
theorem many_skip (h : PySem.W.exmOne K cls c = some false) (k : wManyAs K i Wout D l cls d σ H) : wManyAs K i Wout D ((c, ts) :: l) cls d σ H := ⟨false, h, (fun z => nomatch z), fun _ => k⟩
theorem as_hit (h : PySem.W.exmOne K cls c = some true) (k : ∀ a, H a = none → ts a cls d { nx := fun σ' H' => D.nx (σ'.set i none) H', rt := D.rt, bk := fun σ' H' => D.bk (σ'.set i none) H', ct := fun σ' H' => D.ct (σ'.set i none) H' } (σ.set i (some (.ref a))) H) :
    wAs K c i ts Wout D cls d σ H := ⟨true, h, (fun _ a na => k a na), (fun z => nomatch z)⟩
end
end Kn
namespace Kn
open PySem PySem.Spec PyProof.Rows L2 Evl SX
mutual
theorem Dt.tups {H H1 : Hp} (e : ∀ q xs, H q = some (.tup xs) → H1 q = some (.tup xs)) : ∀ {v : V} {d : PyData}, Dt H v d → noL d = true → Dt H1 v d
  | _, _, .non, _ => .non
  | _, _, .bl b, _ => .bl b
  | _, _, .int i, _ => .int i
  | _, _, .str x, _ => .str x
  | _, _, .lst _ _, n => by
    unfold noL at n
    cases n
  | _, _, .tup h r, n => by
    unfold noL at n
    exact .tup (e _ _ h) (DtA.tups e r n)
theorem DtA.tups {H H1 : Hp} (e : ∀ q xs, H q = some (.tup xs) → H1 q = some (.tup xs)) : ∀ {vs : List V} {ds : List PyData}, DtA H vs ds → noLA ds = true → DtA H1 vs ds
  | _, _, .nil, _ => .nil
  | _, _, .cons h r, n => by
    unfold noLA at n
    rw [Bool.and_eq_true] at n
    exact .cons (Dt.tups e h n.1) (DtA.tups e r n.2)
end
end Kn
namespace Kn
open PySem PySem.Spec PyProof.Rows L2 Evl SX
theorem Paired.unmap {α β γ : Type} {F : α → γ → Prop} {u : β → γ} : ∀ {as : List α} {bs : List β}, Paired F as (bs.map u) → Paired (fun a b => F a (u b)) as bs
  | _, [], .nil => .nil
  | _, b :: bs, .cons h t => .cons h (Paired.unmap t)
end Kn
/-! ### sorted(d), text keys, any number -/
namespace Kn
open PySem PySem.Spec PyProof.Rows L2 Evl SX
def rSortDA (K : PySem.W.Frag) : List V → Hp → VK → Prop := fun xs H Q => ∃ (a : Addr) (kvs : List (Key × V)) (ks : List Str), xs = [.ref a] ∧ Rd H a (.dK kvs) ∧ kvs.map (·.1) = ks.map Sum.inr ∧ ks.length ≤ 100000 ∧ ∀ ys p, ys.Perm ks → sortedS ys = true → H p = none → Q (.ref p) (L2.upd H p (.lst (ys.map V.str)))
theorem cr_sortDA {X : Cx} (hcalm : X.calm = true) : CallR X (.builtin "sorted") (rSortDA X.K) := by
  intro pins s σ H xs us Q I r q
  obtain ⟨a, kvs, ks, ex, hd, hks, h64, q⟩ := q
  subst ex
  obtain ⟨u, eu, rx⟩ := vals1 r
  subst eu
  cases rx
  obtain ⟨z, lo, vs, rel, dd⟩ := dk_rd I.hok hd
  obtain ⟨ep, hat⟩ := dd.dictAt
  have hkeys : vs.map (·.1) = ks.map Sum.inr := rel.keys.symm.trans hks
  have hl : vs.length = ks.length := by
    have e := congrArg List.length hkeys
    rw [List.length_map, List.length_map] at e
    exact e
  have h16 : vs.length ≤ sizeLine := by rw [hl, sizeLine_eq]; omega
  refine Calls.call_function_entry PyProof.Rows.kind_sorted PyProof.Rows.plain_sorted PyProof.Rows.entry_sorted (PyProof.Rows.args_sorted1 _) ?_
  unfold Builtin.«sorted»
  refine wpAny_bind (m := checkCount "sorted" 1 1 _) (wpAny_pure ?_)
  refine wpAny_bind (PySem.W.kdu_collect (A := X.A.in1) (PySem.W.kdl_dict (knd := mixKind X.prog X.w) (kvs := vs) (ep := ep) lo) (I.ok.hd hcalm) hat h16 fun h' tk acc hk hacc => ?_)
  have hal : acc.toList.length = ks.length := by rw [Array.length_toList, hacc.1, hl]
  have hS : StrsAre acc.toList ks := strs_at hal fun j v e => by
    obtain ⟨k, x, e1, e2⟩ := hacc.2 j v (by rw [← Array.getElem?_toList]; exact e)
    have e3 : (vs.map (·.1))[j]? = some k := by rw [List.getElem?_map, e1]; all_goals rfl
    rw [hkeys, List.getElem?_map] at e3
    cases e4 : ks[j]? with
    | none => rw [e4] at e3; cases e3
    | some y =>
      rw [e4] at e3
      have e5 : Sum.inr y = k := Option.some.inj e3
      subst e5
      obtain ⟨t, ev⟩ := Value.isStrOf_shape (x := y) (v := v) e2
      exact ⟨y, t, rfl, ev⟩
  have I1 : Inv X pins σ H { s with heap := h', toks := tk } := I.kept hk
  refine wpAny_bind (wpAny_newList ?_ (by rw [hal, sizeLine_eq]; omega))
  have hoL : (h'.push (seqObj "list" acc.toList.toArray 0)).get? h'.objs.size = some (seqObj "list" acc.toList.toArray 0) := Heap.get?_push_size _ rfl
  show wpAny _ _ _ _ _ { s with heap := h'.push (seqObj "list" acc.toList.toArray 0), toks := tk }
  refine wpAny_bind (wpAny_holding (wpAny_call_entry PyProof.Rows.slot_list_sort ⟨_, hoL, rfl⟩ PyProof.Rows.entry_list_sort
    (list_sort_treeKAny strKind_oneLt (s := { s with heap := h'.push (seqObj "list" acc.toList.toArray 0), toks := tk }) hoL hS.keysOf (fun v₁ v₂ rest e => keyKind_strs (by rw [← e]; exact hS)) (by rw [hal, sizeLine_eq]; omega) fun st' hp hs => ⟨_, rfl, ?_⟩)
    (PyProof.Rows.args_list_sort _)))
  obtain ⟨ys, g1, g2, g3⟩ := sorted_out_str hS hp hs
  obtain ⟨e', he'⟩ := PyProof.Rows.sortedHeap_at (vs := acc.toList) (out := (arrOf st').map (·.2)) hoL
  have hlen : (ys.map V.str).length ≤ sizeLine := by
    rw [List.length_map, g2.length_eq]
    exact Evl.sz_of h64
  refine wpAny_pure ⟨_, rfl, .ref h'.objs.size, L2.upd H h'.objs.size (.lst (ys.map V.str)), I1.laid (t' := tk) (fun b u e => ?_) (Nat.le_refl _)
    (show ObjOk X.prog X.w _ _ _ (.lst (ys.map V.str)) from ⟨hlen, ((arrOf st').map (·.2)).toList, e', vals_of_strs g1, by rw [Array.toArray_toList]; exact he'⟩), rfl, q ys _ g2 g3 (I1.hok.fresh (Nat.le_refl _))⟩
  have hb : b < h'.objs.size := Heap.lt_size e
  rw [PyProof.Rows.sortedHeap_old (Nat.ne_of_lt hb) (by rw [size_push']; exact Nat.lt_succ_of_lt hb)]
  exact Heap.get?_push_of_some _ e
end Kn
namespace Kn
open PySem PySem.Spec PyProof.Rows L2 Evl SX
def rLenD : List V → Hp → VK → Prop := fun xs H Q => ∃ d kvs, xs = [.ref d] ∧ H d = some (.dK kvs) ∧ Q (.int kvs.length) H
theorem cr_lenD {X : Cx} : CallR X (.builtin "len") rLenD := call_lenD
theorem ev_lenD {σ : L2.St} {H : Hp} {td : TE} {d : Addr} {kvs : List (Key × V)} (h : Ev td σ H (.ref d)) (hd : H d = some (.dK kvs)) : Ev (tCB rLenD (tCons td tNil)) σ H (.int (kvs.length : Int)) := fun H1 e Q q => h H1 e _ fun H2 e2 => ⟨d, kvs, rfl, (e.trans e2) _ _ hd, q H2 e2⟩
end Kn
namespace Kn
open PySem PySem.Spec PyProof.Rows L2 Evl SX
section
variable {K : PySem.W.Frag} {σ : L2.St} {H : Hp} {te : TE}
/-- n % m, n // m of naturals; a sign and a number -/
theorem ev_mod {n m : Nat} {k : Int} (h : Ev te σ H (.int (n : Int))) (hk : k = (m : Int)) (hm : 0 < m) : Ev (tOp (rI (fun _ j => 0 < j) fun i j => .int (i % j)) te (tC (.int k))) σ H (.int ((n % m : Nat) : Int)) := by
  subst hk
  rw [Int.natCast_emod]
  exact ev_op h ev_c (rv_mod (by omega))
theorem ev_div {n m : Nat} {k : Int} (h : Ev te σ H (.int (n : Int))) (hk : k = (m : Int)) (hm : 0 < m ∧ m < 1073741824) : Ev (tOp (rI CDiv fun i j => .int (i / j)) te (tC (.int k))) σ H (.int ((n / m : Nat) : Int)) := by
  subst hk
  rw [Int.natCast_ediv]
  exact ev_op h ev_c (rv_fdiv ⟨by omega, by omega⟩)
theorem ev_nm {s : Str} {n : Nat} {c : Nat} (hs : s.cps.toList = [c]) (hn : n < 1000) (h : Ev te σ H (.int (n : Int))) : Ev (tOp rAddS (tC (.str s)) (tCB rStrInt (tCons te tNil))) σ H (.str (S ([c] ++ TL.numL n))) := by
  have hl : (TL.numL n).length ≤ 3 := by
    have z : ∀ m < 1000, (TL.numL m).length ≤ 3 := by decide +kernel
    exact z n hn
  exact ev_op (ev_cS hs) (ev_strInt h hn) (rv_addS (by rw [List.length_singleton]; omega))
theorem et_eqN {n m : Nat} {k : Int} (h : Ev te σ H (.int (n : Int))) (hk : k = (m : Int)) : EvT (tTest (tOp rEq te (tC (.int k)))) σ H (decide (n = m)) := by
  subst hk
  exact et_is (et_test (ev_op h ev_c rv_eqI)) (by rw [decide_eq_decide]; omega)
theorem ev_eqN {n m : Nat} {k : Int} (h : Ev te σ H (.int (n : Int))) (hk : k = (m : Int)) : Ev (tOp rEq te (tC (.int k))) σ H (.bl (decide (n = m))) := by
  subst hk
  exact ev_is (ev_op h ev_c rv_eqI) (by rw [show decide ((n : Int) = (m : Int)) = decide (n = m) from by rw [decide_eq_decide]; omega])
theorem et_ltN {n m : Nat} {k : Int} (h : Ev te σ H (.int (n : Int))) (hk : k = (m : Int)) : EvT (tTest (tOp (rI0 fun i j => .bl (decide (i < j))) te (tC (.int k)))) σ H (decide (n < m)) := by
  subst hk
  exact et_is (et_test (ev_op h ev_c rv_lt)) (by rw [decide_eq_decide]; omega)
end
theorem shaped_tup {ds : List PyData} (h : PyData.canLayAll0 ds = true) (hd : PyData.depth (.tuple ds) ≤ 64) : SeqAt.shaped (.tuple ds) = true := by
  show (PyData.canLayAll0 ds && decide (PyData.depth (.tuple ds) ≤ 64)) = true
  rw [h, decide_eq_true hd]
  rfl
theorem shaped_lst {ds : List PyData} (h : PyData.canLayAll0 ds = true) (hd : PyData.depth (.list ds) ≤ 64) : SeqAt.shaped (.list ds) = true := by
  show (PyData.canLayAll0 ds && decide (PyData.depth (.list ds) ≤ 64)) = true
  rw [h, decide_eq_true hd]
  rfl
theorem can_cons {d : PyData} {ds : List PyData} (h : PyData.canLay0 d = true) (r : PyData.canLayAll0 ds = true) : PyData.canLayAll0 (d :: ds) = true := by
  show (PyData.canLay0 d && PyData.canLayAll0 ds) = true
  rw [h, r]
  rfl
theorem can_nil : PyData.canLayAll0 [] = true := rfl
theorem eqv_self {d : PyData} (h : SeqAt.shaped d = true) : PyData.eqv d d = true := SeqAt.eqv_refl _ (SeqAt.canLay_of_shaped h)
theorem canL_strs : ∀ {ys : List Str}, (∀ y ∈ ys, okS y.cps.toList = true) → PyData.canLayAll0 (ys.map .str) = true
  | [], _ => rfl
  | y :: r, h => by
    have e : y = S y.cps.toList := by
      refine TL.ext_tl ?_
      rfl
    rw [List.map_cons]
    refine can_cons ?_ (canL_strs fun z hz => h z (List.mem_cons_of_mem _ hz))
    rw [e]
    exact canS (h y List.mem_cons_self)
theorem depth_strs : ∀ ys : List Str, PyData.depthAll (ys.map .str) = 0
  | [] => rfl
  | y :: r => by
    show max 0 (PyData.depthAll (r.map .str)) = 0
    rw [depth_strs r]
    rfl
theorem shaped_strs {ys : List Str} (h : ∀ y ∈ ys, okS y.cps.toList = true) : SeqAt.shaped (.list (ys.map .str)) = true := by
  show (PyData.canLayAll0 (ys.map .str) && decide (PyData.depthAll (ys.map .str) + 1 ≤ 64)) = true
  rw [canL_strs h, depth_strs]
  rfl
theorem dta_strs {H : Hp} : ∀ ys : List Str, DtA H (ys.map V.str) (ys.map .str)
  | [] => .nil
  | y :: r => .cons (.str y) (dta_strs r)
/-- the part of a try that returns (word, o.m(..)) -/
theorem done_ret {C p dx : Addr} {m : Str} {sp : Sp} {W : WX} {fs : List (Str × V)} {σ : L2.St} {H : Hp} {D : Ends} {tA : TA} {vs : List V} {word : Str} (hσ : σ[0]? = some (some (.ref p))) (ho : H p = some (.ins C dx fs)) (hm : fs.lookup m = none) (hA : EvA tA σ H vs)
    (hs : ∀ H1, Ex H H1 → sp (.ref p :: vs) H1 (fun v H2 => [V.str word, v].length ≤ sizeLine ∧ ∀ q, H2 q = none → D.rt (.ref q) (L2.upd H2 q (.tup [.str word, v]))) (WE W σ)) :
    tRet (tTup (tCons (tC (.str word)) (tCons (tMethX C m sp (WE W) (tVar 0) tA) tNil))) D σ H :=
  ⟨_, hσ, p, dx, fs, rfl, ho, hm, hA H (Ex.refl _) _ fun H1 e1 => hs H1 e1⟩
end Kn
/-! ### a dict of the module with text keys: what it holds at each key -/
namespace Kn
open PySem PySem.Spec PyProof.Rows L2 Evl SX
/-- the entries as they stand: keys and values -/
def wdLook (es : List (Str × V)) (z : Str) : Option V := (es.find? fun e => decide (e.1 = z)).map (·.2)
structure WD (K : PySem.W.Frag) (w : World) (mg : Str → Option Value) (x : Str) (D : Addr) (f : List (Str × V)) : Prop where
  mg : mg x = some (.ref D)
  ex : ∃ es n, KDict K w D es n
  at_ : ∀ z, ∃ r, PySem.W.nsIn K D z = some r ∧ ((wdLook f z = none ∧ r = none) ∨ ∃ v u, wdLook f z = some v ∧ r = some u ∧ RelV v u)
inductive EntsAre : List DictEntry → List (Str × V) → Prop
  | nil : EntsAre [] []
  | cons {e : DictEntry} {es : List DictEntry} {x : Str} {v : V} {f : List (Str × V)} (hk : ∃ t, e.key = .str x t) (hv : RelV v e.val) (r : EntsAre es f) : EntsAre (e :: es) ((x, v) :: f)
theorem EntsAre.find : ∀ {es : List DictEntry} {f : List (Str × V)}, EntsAre es f → ∀ z : Str, ((es.find? (·.key.isStr z)) = none ∧ wdLook f z = none ∧ es.any (·.refKey) = false) ∨ ∃ e v, es.find? (·.key.isStr z) = some e ∧ wdLook f z = some v ∧ RelV v e.val
  | _, _, .nil, z => .inl ⟨rfl, rfl, rfl⟩
  | _, _, .cons (e := e) (es := es) (x := x) (v := v) (f := f) ⟨t, hk⟩ hv r, z => by
    unfold wdLook
    rw [List.find?_cons, List.find?_cons]
    have h1 : e.key.isStr z = decide (x = z) := by
      rw [hk]
      show (x == z) = decide (x = z)
      by_cases h : x = z
      · rw [h, decide_eq_true rfl]
        exact beq_self_eq_true z
      · rw [decide_eq_false h]
        exact beq_eq_false_iff_ne.mpr h
    rw [h1]
    by_cases h : x = z
    · rw [decide_eq_true h]
      exact .inr ⟨e, v, rfl, rfl, hv⟩
    · rw [decide_eq_false h]
      rcases EntsAre.find r z with ⟨a, b, c⟩ | ⟨e2, v2, a, b, c⟩
      · refine .inl ⟨a, b, ?_⟩
        rw [List.any_cons, c, Bool.or_false]
        unfold DictEntry.refKey
        rw [hk]
      · exact .inr ⟨e2, v2, a, b, c⟩
theorem wd_of {K : PySem.W.Frag} {w : World} {mg : Str → Option Value} {x : Str} {D : Addr} {es : Array DictEntry} {n : Nat} {f : List (Str × V)} (g : mg x = some (.ref D)) (h : K.lookup D = some ⟨.type "dict", none, .dict es n, #[]⟩) (low : (D == sysModules) = false) (lit : PySem.W.KeysLit w.params es.toList) (ea : EntsAre es.toList f) : WD K w mg x D f :=
  ⟨g, ⟨es, n, h, lit, low⟩, fun z => by
    unfold PySem.W.nsIn
    rw [h]
    dsimp only
    rcases ea.find z with ⟨a, b, c⟩ | ⟨e, v, a, b, c⟩
    · rw [a, c]
      exact ⟨none, rfl, .inl ⟨b, rfl⟩⟩
    · rw [a]
      exact ⟨some e.val, rfl, .inr ⟨v, _, b, rfl, c⟩⟩⟩
def rWIn (D : Addr) (f : List (Str × V)) : R2 := fun x y H Q => ∃ z : Str, x = .str z ∧ y = .ref D ∧ Q (.bl (wdLook f z).isSome) H
def rWNin (D : Addr) (f : List (Str × V)) : R2 := fun x y H Q => ∃ z : Str, x = .str z ∧ y = .ref D ∧ Q (.bl (!(wdLook f z).isSome)) H
def rIxW (D : Addr) (f : List (Str × V)) : R2 := fun x y H Q => ∃ (z : Str) (v : V), x = .ref D ∧ y = .str z ∧ wdLook f z = some v ∧ Q v H
def tWGet2 (D : Addr) (f : List (Str × V)) (td ty tx : TE) : TE := fun σ H Q => td σ H fun x H1 => x = .ref D ∧ ty σ H1 fun y H2 => tx σ H2 fun d H3 => ∃ z : Str, y = .str z ∧ Q ((wdLook f z).getD d) H3
section
variable {X : Cx} {x : Str} {D : Addr} {f : List (Str × V)} {pos apos cpos : Pos} {o e e2 : Expr} {td ty tx : TE}
theorem pe_wd (W : WD X.K X.w X.mg x D f) (hg : Gl X x) (hd : (x == ("__debug__" : Str)) = false := by decide) : PE X (.Name x pos) (tC (.ref D)) := pe_glob hg W.mg rfl hd
theorem WD.same {K : PySem.W.Frag} {w : World} {mg : Str → Option Value} (W : WD K w mg x D f) (z : Str) : ∃ r, PySem.W.nsIn K D z = some r ∧ r.isSome = (wdLook f z).isSome := by
  obtain ⟨r, h, h2⟩ := W.at_ z
  refine ⟨r, h, ?_⟩
  rcases h2 with ⟨a, b⟩ | ⟨v, u, a, b, _⟩ <;> rw [a, b] <;> rfl
theorem op_in_wd (W : WD X.K X.w X.mg x D f) : OpR X (compareOp .In) (rWIn D f) := by
  intro pins s σ H x y v u Q I rx ry h
  obtain ⟨z, rfl, rfl, q⟩ := h
  obtain ⟨es, n, hD⟩ := W.ex
  obtain ⟨r, h1, h2⟩ := W.same z
  exact op_in_kd hD pins s σ H _ _ v u Q I rx ry ⟨z, r, rfl, rfl, h1, by rw [h2]; exact q⟩
theorem op_notIn_wd (W : WD X.K X.w X.mg x D f) : OpR X (compareOp .NotIn) (rWNin D f) := by
  intro pins s σ H x y v u Q I rx ry h
  obtain ⟨z, rfl, rfl, q⟩ := h
  obtain ⟨es, n, hD⟩ := W.ex
  obtain ⟨r, h1, h2⟩ := W.same z
  exact op_notIn_kd hD pins s σ H _ _ v u Q I rx ry ⟨z, r, rfl, rfl, h1, by rw [h2]; exact q⟩
theorem ix_wd (W : WD X.K X.w X.mg x D f) : IxR X (rIxW D f) := by
  intro value slice pins s σ H x y v u Q I rx ry h hs
  obtain ⟨z, v0, rfl, rfl, h0, q⟩ := h
  obtain ⟨es, n, hD⟩ := W.ex
  obtain ⟨r, h1, h2⟩ := W.at_ z
  rcases h2 with ⟨a, b⟩ | ⟨v1, u1, a, b, c⟩
  · rw [h0] at a
    cases a
  · rw [h0] at a
    cases Option.some.inj a
    subst b
    obtain rfl : v = Value.ref D := rx
    obtain ⟨t, rfl⟩ := (show ∃ t, u = Value.str z t from ry)
    have hm' := PySem.W.mapOf_K (prog := X.prog) (w := X.w) I.kIn hD.at_ hD.lit
    exact tail_any hm'.typeIs slot_dict_getitem.lookup (wpAny_getItem_of (PySem.strKind_is X.prog X.w z t) hm' (PySem.W.find_K hD.at_ h1) ⟨v0, H, I.tok _, c, q⟩) hs
theorem pe_wget2 (W : WD X.K X.w X.mg x D f) (ho : PE X o td) (he : PE X e ty) (hf : PE X e2 tx) (m : M2 X o "get" apos e e2 cpos) : PE X (.Call (.Attribute o "get" apos) [e, e2] [] cpos) (tWGet2 D f td ty tx) := by
  refine ⟨fun pins s σ H Q I h => ?_⟩
  obtain ⟨es, n, hD⟩ := W.ex
  refine wpAny_Call_method m.base m.few m.line PySem.F.plainAttrs_dict PySem.F.slot_dict_get PySem.F.type_dict_get (thn (ho.run pins s σ H _ I h) fun u s1 ⟨y1, H1, I1, rx, ex, q1⟩ => ?_)
  subst ex
  obtain rfl : u = Value.ref D := rx
  have hk := fun (h : Heap) (k : X.K.In h) => k _ _ hD.at_
  refine ⟨kd_type hD I1, fun b q => ?_, ?_⟩
  · cases q
    exact ⟨_, hk _ I1.kIn, rfl⟩
  rw [m.trees]
  refine Calls.callWith_builtin rfl (Calls.evalArgs_plain (Calls.spliced_cons (thn (he.run pins s1 σ H1 _ I1 q1) fun iv s2 ⟨y, H2, I2, ry, q2⟩ =>
    Calls.spliced_cons (thn (hf.run pins s2 σ H2 _ I2 q2) fun fv s3 ⟨d, H3, I3, rz, z, ey, q3⟩ => Calls.spliced_nil ?_))))
  subst ey
  obtain ⟨t, rfl⟩ := (show ∃ t, iv = Value.str z t from ry)
  obtain ⟨r, h1, h2⟩ := W.at_ z
  have hm' := PySem.W.mapOf_K (prog := X.prog) (w := X.w) I3.kIn hD.at_ hD.lit
  refine call_meetsIn PySem.F.slot_dict_get hm'.typeIs PySem.F.entry_dict_get (PySem.F.args_dict_get_3 _ _ _) (meets_dict_get_default (strKind X.prog X.w) D (PySem.strKind_is X.prog X.w z t) hD.low fv) ⟨_, hm', ?_⟩
  have hf1 := PySem.W.find_K hD.at_ h1
  rw [hf1]
  refine ⟨(wdLook f z).getD d, H3, I3.tok _, ?_, q3⟩
  rcases h2 with ⟨a, b⟩ | ⟨v1, u1, a, b, c⟩
  · rw [a, b]
    exact rz
  · rw [a, b]
    exact c
end
section
variable {σ : L2.St} {H : Hp} {ta tb tc : TE} {D : Addr} {f : List (Str × V)} {l : List Nat} {v : V}
theorem rv_win : RV (rWIn D f) (.str (S l)) (.ref D) H (.bl (wdLook f (S l)).isSome) := fun H1 _ _ q => ⟨S l, rfl, rfl, q H1 (Ex.refl H1)⟩
theorem rv_wnin : RV (rWNin D f) (.str (S l)) (.ref D) H (.bl (!(wdLook f (S l)).isSome)) := fun H1 _ _ q => ⟨S l, rfl, rfl, q H1 (Ex.refl H1)⟩
theorem rv_wix (h : wdLook f (S l) = some v) : RV (rIxW D f) (.ref D) (.str (S l)) H v := fun H1 _ _ q => ⟨S l, v, rfl, rfl, h, q H1 (Ex.refl H1)⟩
theorem ev_wget2 (ha : Ev ta σ H (.ref D)) (hb : Ev tb σ H (.str (S l))) (hc : Ev tc σ H v) : Ev (tWGet2 D f ta tb tc) σ H ((wdLook f (S l)).getD v) := fun H1 e Q q =>
  ha H1 e _ fun H2 e2 => ⟨rfl, hb H2 (e.trans e2) _ fun H3 e3 => hc H3 ((e.trans e2).trans e3) _ fun H4 e4 => ⟨S l, rfl, q H4 ((e2.trans e3).trans e4)⟩⟩
end
end Kn
namespace Kn
open PySem PySem.Spec PyProof.Rows L2 Evl SX
theorem num_len {n : Nat} (h : n < 10 ^ 9) : (TL.numL n).length ≤ 9 := by
  unfold TL.numL
  rw [List.length_map]
  exact (Nat.length_toDigits_le_iff (by decide) (by decide)).mpr h
theorem cutS_nat (l : List Nat) (a b : Nat) : cutS (S l) (some (a : Int)) (some (b : Int)) = S ((l.drop a).take (b - a)) := by
  unfold cutS
  rw [HT.sIx_nat, HT.sIx_nat]
  exact congrArg S (cut_nat l a b)
/-! ### lstrip, unpacking, raising passed on -/
def rLstripC : V → List V → Hp → VK → Prop := fun x xs H Q => ∃ a b, x = .str a ∧ xs = [.str b] ∧ a.length ≤ sizeLine ∧ Q (.str (Txt.lstripChars a b)) H
theorem mt_lstripC {X : Cx} : MtR X "str.lstrip" rLstripC := mt_lstripChars
theorem drop_tw (p : Nat → Bool) : ∀ l : List Nat, l.drop (l.takeWhile p).length = l.dropWhile p
  | [] => rfl
  | c :: r => by
    rw [List.takeWhile_cons, List.dropWhile_cons]
    cases h : p c with
    | true =>
      show (c :: r).drop ((r.takeWhile p).length + 1) = r.dropWhile p
      rw [List.drop_succ_cons]
      exact drop_tw p r
    | false => rfl
theorem lstrip_S (l : List Nat) (c : Nat) : Txt.lstripChars (S l) (S [c]) = S (l.dropWhile fun d => decide (d = c)) := by
  unfold Txt.lstripChars
  rw [PySem.W.stripBy_eq]
  refine TL.ext_tl ?_
  have hg : ∀ d, (S [c]).cps.contains d = decide (d = c) := fun d => by
    show (#[c] : Array Nat).contains d = _
    by_cases h : d = c
    · subst h; simp
    · simp [h]
  have e : (fun d => (S [c]).cps.contains d) = fun d => decide (d = c) := funext hg
  show (PySem.W.stripped (fun d => (S [c]).cps.contains d) true false (S l)).cps.toList = _
  rw [e]
  show (PySem.Builtin.Str.strSub (S l) (l.takeWhile fun d => decide (d = c)).length (S l).length).cps.toList = l.dropWhile fun d => decide (d = c)
  rw [S_len]
  have h1 := TL.tl_strSub (x := S l) (i := (l.takeWhile fun d => decide (d = c)).length) (j := l.length)
  refine h1.trans ?_
  show (l.drop _).take (l.length - _) = _
  rw [List.take_of_length_le (by rw [List.length_drop]; exact Nat.le_refl _)]
  exact drop_tw _ l
section
variable {K : PySem.W.Frag} {σ : L2.St} {H H' : Hp} {ta tb te : TE} {v1 v2 v3 : V} {a : Addr} {i j k : Nat} {Q : L2.St → Hp → Prop}
theorem ev_lstrip {l : List Nat} {c : Nat} (ha : Ev ta σ H (.str (S l))) (hb : Ev tb σ H (.str (S [c]))) (hl : l.length ≤ 100000) : Ev (tM1 rLstripC ta tb) σ H (.str (S (l.dropWhile fun d => decide (d = c)))) := fun H1 e Q q =>
  ha H1 e _ fun H2 e2 => ⟨⟨_, rfl⟩, hb H2 (e.trans e2) _ fun H3 e3 => ⟨S l, S [c], rfl, rfl, by rw [S_len]; exact sz_of hl, by rw [lstrip_S]; exact q H3 (e2.trans e3)⟩⟩
theorem unp2 (h : H a = some (.tup [v1, v2])) (q : Q ((σ.set i (some v1)).set j (some v2)) H) : gTup K 2 (gCons (gName i) (gCons (gName j) gNil)) (.ref a) σ H Q :=
  ⟨a, _, rfl, st_of h, rfl, v1, _, rfl, v2, _, rfl, rfl, q⟩
theorem unp3 (h : H a = some (.tup [v1, v2, v3])) (q : Q (((σ.set i (some v1)).set j (some v2)).set k (some v3)) H) : gTup K 3 (gCons (gName i) (gCons (gName j) (gCons (gName k) gNil))) (.ref a) σ H Q :=
  ⟨a, _, rfl, st_of h, rfl, v1, _, rfl, v2, _, rfl, v3, _, rfl, rfl, q⟩
/-- what is raised: an error of the class at C with these four fields -/
def Rz4 (H : Hp) (E : XK) (C : Addr) (p : List Nat) (n c : Nat) (r : List Nat) : Prop := ∀ d H', Ex H H' → H' d = some (.xd (fs4 p n c r)) → E (.ref C) (some d) H'
theorem Rz4.mono {E : XK} {C : Addr} {p r : List Nat} {n c : Nat} (h : Rz4 H E C p n c r) (e : Ex H H') : Rz4 H' E C p n c r := fun d H2 e2 hd => h d H2 (e.trans e2) hd
end
end Kn
namespace Kn
open PySem PySem.Spec PyProof.Rows L2 Evl SX
section
variable {σ : L2.St} {H H' : Hp} {W : WX} {sp : Sp} {tA : TA} {g : TG} {D : Ends} {tz : TS} {vs : List V}
/-- a call that may raise, its answer stored, returned, thrown away -/
theorem s_asgS (hA : EvA tA σ H vs) (k : ∀ H1, Ex H H1 → sp vs H1 (fun v H2 => g v σ H2 D.nx) (WE W σ)) : tAsg (tCallS sp (WE W) tA) g D σ H := hA H (Ex.refl _) _ fun H1 e1 => k H1 e1
theorem q_asgS (hA : EvA tA σ H vs) (k : ∀ H1, Ex H H1 → sp vs H1 (fun v H2 => g v σ H2 (tz D)) (WE W σ)) : tSeq (tAsg (tCallS sp (WE W) tA) g) tz D σ H := s_asgS (D := { D with nx := tz D }) hA k
theorem s_retS (hA : EvA tA σ H vs) (k : ∀ H1, Ex H H1 → sp vs H1 (fun v H2 => D.rt v H2) (WE W σ)) : tRet (tCallS sp (WE W) tA) D σ H := hA H (Ex.refl _) _ fun H1 e1 => k H1 e1
end
end Kn
namespace Kn
open PySem PySem.Spec PyProof.Rows L2 Evl SX
section
variable {K : PySem.W.Frag} {σ : L2.St} {H H' : Hp} {ta te : TE} {D : Ends} {tz : TS} {l : Addr} {xs : List V} {d : PyData}
theorem s_appD (hl : H l = some (.lst xs)) (ha : Ev ta σ H (.ref l)) (h : EvD te σ H d) (hz : xs.length < 100000) (k : ∀ v H1, Ex H H1 → Dt H1 v d → D.nx σ (L2.upd H1 l (.lst (xs ++ [v])))) :
    tDrop (tBM K "list" rAppend ta (tCons te tNil)) D σ H := ha H (Ex.refl H) _ fun H1 e1 =>
  ⟨Or.inl ⟨rfl, xs, sq_of (e1 l _ hl)⟩, h H1 e1 _ fun v H2 e2 hv => ⟨l, xs, v, rfl, rfl, e2 l _ (e1 l _ hl), sz_lt hz, k v H2 (e1.trans e2) hv⟩⟩
theorem q_appD (hl : H l = some (.lst xs)) (ha : Ev ta σ H (.ref l)) (h : EvD te σ H d) (hz : xs.length < 100000) (k : ∀ v H1, Ex H H1 → Dt H1 v d → tz D σ (L2.upd H1 l (.lst (xs ++ [v])))) :
    tSeq (tDrop (tBM K "list" rAppend ta (tCons te tNil))) tz D σ H := s_appD (D := { D with nx := tz D }) hl ha h hz k
theorem dta_app {v : V} {ds : List PyData} (hl : H l = some (.lst xs)) (hD : DtA H xs ds) (hv : Dt H v d) (h1 : noLA ds = true) (h2 : noL d = true) : DtA (L2.upd H l (.lst (xs ++ [v]))) (xs ++ [v]) (ds ++ [d]) :=
  DtA.snoc (hv.upd hl (fun _ z => nomatch z) h2) (hD.upd hl (fun _ z => nomatch z) h1)
theorem noLA_map {α : Type} {f : α → PyData} (h : ∀ x, noL (f x) = true) : ∀ l : List α, noLA (l.map f) = true
  | [] => by unfold noLA; rfl
  | x :: r => by
    rw [List.map_cons]
    unfold noLA
    rw [h x, noLA_map h r]
    rfl
end
end Kn
namespace Kn
open PySem PySem.Spec PyProof.Rows L2 Evl SX
/-! ### a token is out -/
section
variable {X : Cx} {a b c e o : Expr} {rest : List Expr} {ta tb te to : TE} {tc tA tB' : TT} {t u : TS} {sa sb : List Stmt} {pos apos : Pos}
theorem peb_int {i : Int} {j : Nat} : PEb X (.Constant (.int i) j pos) (tC (.int i)) := fun _ s _ H _ I h => wpAny_Constant_int ⟨by show 1 ≤ s.toks + 1; omega, .int i, H, I.tok _, ⟨_, rfl⟩, h⟩
theorem peb_opR {op : Operator} {r : R2} (ho : OpR X (binaryOp op) r) (ha : PE X a ta) (hb : PEb X b tb) : PEb X (.BinOp a op b pos) (tOp r ta tb) := by
  intro pins s σ H Q I h
  refine wpAny_BinOp (thn (ha.run pins s σ H _ I h) fun v s1 ⟨x, H1, I1, r1, q1⟩ => ?_)
  exact thn (hb pins s1 σ H1 _ I1 q1) fun u s2 ⟨h2, y, H2, I2, r2, q2⟩ => keep_tok h2 (ho pins s2 σ H2 x y v u Q I2 r1 r2 q2)
theorem peb_ix {r : R2} (hr : IxR X r) (ha : PE X a ta) (hb : PEb X b tb) (hs : PlainIx b) : PEb X (.Subscript a b pos) (tOp r ta tb) := by
  intro pins s σ H Q I h
  refine Subscript_ (thn (ha.run pins s σ H _ I h) fun v s1 ⟨x, H1, I1, r1, q1⟩ => ?_)
  exact thn (hb pins s1 σ H1 _ I1 q1) fun u s2 ⟨h2, y, H2, I2, r2, q2⟩ => keep_tok h2 (hr a b pins s2 σ H2 x y v u Q I2 r1 r2 q2 (hs _ _))
theorem pe_of_b {te : TE} (h : ∀ (pins : List (Addr × Obj)) (s : Shared) (σ : L2.St) (H : Hp) (Q : VK), Inv X pins σ H s → te σ H Q → wpAny (model X.prog X.w) X.A (eval e X.env) (EP X pins σ Q) X.xe s) : PE X e te := ⟨h⟩
/-- b.replace(..), where b's own text gives a token -/
theorem pe_replB {y z : Str} {j k : Nat} {c0 c1 : Pos} (ho : PEb X o to) (hyz : (y == z) = false := by decide)
    (hst : starEach [.Constant (.str y) j c0, .Constant (.str z) k c1] X.env = [(false, eval (.Constant (.str y) j c0) X.env), (false, eval (.Constant (.str z) k c1) X.env)] := by rfl)
    (hbase : attributeBase o "replace" X.env (eval o X.env) = eval o X.env := by rfl) (hline : (apos.endLine == pos.line) = true := by rfl) :
    PE X (.Call (.Attribute o "replace" apos) [.Constant (.str y) j c0, .Constant (.str z) k c1] [] pos) (CwR.tReplC to y z) := by
  refine ⟨fun pins s σ H Q I h => ?_⟩
  refine PySem.Call_method2 hbase hst hline (thn (ho pins s σ H _ I h) fun v s1 ⟨hk, v', H1, I1, r1, x, e1, hb, q⟩ => ?_)
  subst e1
  obtain ⟨tx, e2⟩ := r1
  subst e2
  refine ⟨"str", _, PySem.F.plainAttrs_str, PySem.F.slot_str_replace, PySem.F.type_str_replace, typeIs_str _ _ _, (fun _ e => nomatch e), Calls.callWith_builtin rfl (Calls.evalArgs_plain (Calls.spliced_cons ?_))⟩
  refine Calls.Constant_str (Calls.spliced_cons (Calls.Constant_str (Calls.spliced_nil ?_)))
  exact PySem.SC.replace (by show s1.toks ≠ 0; omega) (by show s1.toks + 1 ≠ 0; omega) (by show s1.toks ≠ s1.toks + 1; omega) hyz hb fun t' k => ⟨.str (Txt.replace x y z), H1, I1.tok k, ⟨t', rfl⟩, q⟩
def PTT (X : Cx) (c : Expr) (tc : TT) : Prop := ∀ (pins : List (Addr × Obj)) (s : Shared) (σ : L2.St) (H : Hp) (Q : Bool → Hp → Prop), 1 ≤ s.toks → Inv X pins σ H s → tc σ H Q → wpAny (model X.prog X.w) X.A (isTrue c X.env (eval c X.env)) (TP X pins σ Q) X.xe s
def PWT (X : Cx) (c : Expr) (tc : TT) : Prop := ∀ (whole : Sem Value) (pins : List (Addr × Obj)) (s : Shared) (σ : L2.St) (H : Hp) (Q : Bool → Hp → Prop), 1 ≤ s.toks → Inv X pins σ H s → tc σ H Q → wpAny (model X.prog X.w) X.A (isTrue c X.env whole) (TP X pins σ Q) X.xe s
theorem PWT.pt (h : PWT X c tc) : PTT X c tc := h _
theorem pet_ix {r : R2} (hr : IxR X r) (ha : L2.PET X a ta) (hb : PE X b tb) (hs : PlainIx b) : L2.PET X (.Subscript a b pos) (tOp r ta tb) := by
  intro pins s σ H Q h0 I h
  refine Subscript_ (thn (ha pins s σ H _ h0 I h) fun v s1 ⟨x, H1, I1, r1, q1⟩ => ?_)
  exact thn (hb.run pins s1 σ H1 _ I1 q1) fun u s2 ⟨y, H2, I2, r2, q2⟩ => hr a b pins s2 σ H2 x y v u Q I2 r1 r2 q2 (hs _ _)
theorem ptt_cmpR {op : CmpOp} {r : R2} (ho : OpR X (compareOp op) r) (ha : L2.PET X a ta) (hb : PE X b tb) (hm : behindInMarks op b = false) : PTT X (.Compare a [op] [b] pos) (tTest (tOp r ta tb)) := by
  intro pins s σ H Q h0 I h
  refine wpAny_isTrue_Compare1 (thn (ha pins s σ H _ h0 I h) fun v s1 ⟨x, H1, I1, r1, q1⟩ => thn (hb.run pins s1 σ H1 _ I1 q1) fun u s2 ⟨y, H2, I2, r2, q2⟩ =>
    thn (ho pins s2 σ H2 x y v u _ I2 r1 r2 q2) fun c s3 ⟨z, H3, I3, r3, k, e, q3⟩ => ?_) hm
  subst e
  cases r3
  exact wpAny_truthy_bool ⟨H3, I3, q3⟩
theorem ptw_or1 (ha : PTT X a tA) : PWT X (.BoolOp .Or [a] pos) tA := by
  intro wh pins s σ H Q h0 I h
  refine isTrue_or (thn (ha pins s σ H Q h0 I h) fun c s1 e => ?_)
  cases c with
  | false => exact isTrue_or_nil e
  | true => exact e
theorem ptw_or (ha : PTT X a tA) (hb : PWT X (.BoolOp .Or (b :: rest) pos) tB') : PWT X (.BoolOp .Or (a :: b :: rest) pos) (tOr tA tB') := by
  intro wh pins s σ H Q h0 I h
  refine isTrue_or (thn (keep_tok h0 (ha pins s σ H _ h0 I h)) fun c s1 ⟨h1, H1, I1, q1⟩ => ?_)
  cases c with
  | true => exact ⟨H1, I1, q1⟩
  | false => exact hb wh pins s1 σ H1 Q h1 I1 q1
theorem pst_ifT (hc : PTT X c tc) (ha : PSs X sa t) (hb : PSs X sb u) : L2.PST X (.If c sa sb pos) (tIfS tc t u) := by
  intro pins s σ H D h0 I h
  refine wpAny_If (thn (hc pins s σ H _ h0 I h) fun d s1 ⟨H1, I1, q1⟩ => ?_)
  cases d with
  | true => exact ha.run pins s1 σ H1 D I1 q1
  | false => exact hb.run pins s1 σ H1 D I1 q1
theorem psst_nox (h : L2.PSsT X.nox sa t) : L2.PSsT X sa t := fun pins s σ H D h0 I hw =>
  wpAny_mono (h pins s σ H D h0 (I.wish _) hw) (fun _ _ q => q.unwish) fun _ _ z => False.elim z
end
section
variable {P : Program} {w : World} {K : PySem.W.Frag} {mg : Str → Option Value} {base : Heap}
theorem okT {x qual : Str} {st : Stmt} {f : Addr} {fd : FuncData} {N ps : List Str} {k : Nat} {sp : Sp} (F : Fun K x qual st f fd) (S : FnScope N ps (defScope st)) (hnc : ∀ y ∈ (defScope st).names, y.2 ≠ .cell) (hps : 1 ≤ ps.length) (len : ∀ vs H Q E, sp vs H Q E → vs.length = ps.length)
    (hbody : ∀ (cdv : Value) (A : Around) (outer : List Env) (s : Shared) (H : Hp) (vs : List V) (Q : VK) (E : XK), Room k (A.deeper (envOfC qual (defScope st) s.heap.objs.size f cdv)) → sp vs H Q E →
      ∃ t, L2.PSsT (cxOf CX0 P w K mg base N qual (defScope st) f cdv A outer s H E).nox (defBody st) t ∧ t { nx := fun _ H' => Q .non H', rt := Q } (start N vs) H) : FnOk P w K mg base CX0 (k + 1) f fd ps sp := by
  obtain ⟨oc, od, kV, doc, pm, an, cdv, ct, osl, rfl, lk, hcd⟩ := F.ex
  refine fn_ofT lk hcd S hnc hps len fun A outer s H vs Q E hr hsp => ?_
  obtain ⟨t, h, q⟩ := hbody cdv A outer s H vs Q E hr hsp
  exact ⟨t, psst_nox h, q⟩
end
section
/-- a sign of a text put for others -/
def sub1 (c : Nat) (z l : List Nat) : List Nat := l.flatMap fun e => if e = c then z else [e]
theorem repl_any {c : Nat} {z : List Nat} : ∀ l : List Nat, StrLaws.replL [c] z l = sub1 c z l
  | [] => StrLaws.replL_nil
  | e :: r => by
    by_cases h : e = c
    · subst h
      rw [StrLaws.replL_hit (List.cons_ne_nil _ _) rfl, show (e :: r).drop [e].length = r from rfl, repl_any r]
      unfold sub1
      rw [List.flatMap_cons, if_pos rfl]
    · rw [StrLaws.replL_miss (y := [c]) (show ¬ (e :: r).take [c].length = [c] from fun z => h (List.cons.inj (show e :: r.take 0 = [c] from z)).1), repl_any r]
      unfold sub1
      rw [List.flatMap_cons, if_neg h]
      rfl
theorem replace_A {l z : List Nat} {c : Nat} : Txt.replace (S l) (S [c]) (S z) = S (sub1 c z l) := by
  refine TL.ext_tl ?_
  show (Txt.replace (S l) (S [c]) (S z)).cps.toList = _
  exact (StrLaws.replace_list (show 1 ≤ (S [c]).length from Nat.le_refl 1)).trans (repl_any l)
theorem ev_replA {σ : L2.St} {H : Hp} {ta : TE} {l z : List Nat} {s1 s2 : Str} {c : Nat} (ha : Ev ta σ H (.str (S l))) (h1 : s1 = S [c]) (h2 : s2 = S z) (hl : l.length ≤ 100000) (hz : z.length ≤ 8) : Ev (CwR.tReplC ta s1 s2) σ H (.str (S (sub1 c z l))) := fun H1 e Q q => by
  subst h1 h2
  refine ha H1 e _ fun H2 e2 => ⟨S l, rfl, ?_, ?_⟩
  · rw [S_len, S_len]
    have : (l.length + 1) * z.length ≤ 100001 * 8 := Nat.mul_le_mul (by omega) hz
    omega
  · rw [replace_A]
    exact q H2 e2
end
end Kn
namespace Kn
open PySem PySem.Spec PyProof.Rows L2 Evl SX
section
variable {X : Cx} {e : Expr} {te : TE} {pos : Pos}
/-- name = value, where the value wants a token -/
theorem pst_set {i : Nat} {x : Str} {pos' : Pos} (hN : X.N.Nodup) (hi : X.N[i]? = some x) (hx : Loc X.env.scope x) (he : L2.PET X e te) (hs : swapsWith e (some (.Name x pos')) pos.line X.env = pure false := by rfl) (hf : X.fn x = true ∨ X.env.scope.names.lookup x = some .local := by first | exact .inl rfl | exact .inr rfl | assumption) :
    L2.PST X (.Assign [.Name x pos'] e pos) (tAsg te (gName i)) := by
  intro pins s σ H D h0 I h
  refine wpAny_Assign_Name (thn (he pins s σ H _ h0 I h) fun v s1 ⟨y, H1, I1, r1, q1⟩ => ?_) hs
  exact store_ok I1 hN hi hx r1 (fun s2 I2 => ⟨_, H1, I2, q1⟩) hf
end
section
variable {σ : L2.St} {H : Hp} {W : WX} {sp : Sp} {tA : TA} {vs : List V} {d : PyData}
theorem q_dropS {D : Ends} {tz : TS} (hA : EvA tA σ H vs) (k : ∀ H1, Ex H H1 → sp vs H1 (fun _ H2 => tz D σ H2) (WE W σ)) : tSeq (tDrop (tCallS sp (WE W) tA)) tz D σ H := hA H (Ex.refl H) _ fun H1 e1 => k H1 e1
theorem s_dropS {D : Ends} (hA : EvA tA σ H vs) (k : ∀ H1, Ex H H1 → sp vs H1 (fun _ H2 => D.nx σ H2) (WE W σ)) : tDrop (tCallS sp (WE W) tA) D σ H := hA H (Ex.refl H) _ fun H1 e1 => k H1 e1
/-- a call that may raise and does not -/
theorem evd_callS (hA : EvA tA σ H vs) (k : ∀ H1, Ex H H1 → ∀ Q : VK, RtD H1 d Q → sp vs H1 Q (WE W σ)) : EvD (tCallS sp (WE W) tA) σ H d := fun H1 e Q q =>
  hA H1 e _ fun H2 e2 => k H2 (e.trans e2) _ fun v H3 e3 hv => q v H3 (e2.trans e3) hv
end
end Kn
namespace Kn
open PySem PySem.Spec PyProof.Rows L2 Evl SX
section
variable {K : PySem.W.Frag} {σ : L2.St} {H H' H1 : Hp} {te t1 t2 : TE}
/-- column, reason -/
def fs2 (c : Nat) (r : List Nat) : List (Str × V) := [("reason", .str (S r)), ("column", .int (c : Int))]
structure Nf2 (K : PySem.W.Frag) (C : Addr) : Prop where
  c : PySem.W.findIn K (.ref C) "column" = some none
  r : PySem.W.findIn K (.ref C) "reason" = some none
def Sm2 (c : Nat) (r : List Nat) : Prop := r.length ≤ 9000 ∧ c < 10 ^ 9
def sp_I2 (K : PySem.W.Frag) : Sp := fun vs H Q _ => ∃ (a C : Addr) (c : Nat) (r : List Nat), vs = [.ref a, .int (c : Int), .str (S r)] ∧ Sm2 c r ∧ H a = some (exo a C none) ∧ OexC K C ∧ Nf2 K C ∧
  ∀ dx H', H dx = none → dx ≠ a → XMade H H' a C dx (fs2 c r) → Q .non H'
theorem raise2 {W : WX} {C : Addr} {r : List Nat} {c : Nat} (oe : OexC K C) (nf : Nf2 K C) (hl : Sm2 c r) (h1 : Ev t1 σ H (.int (c : Int))) (h2 : Ev t2 σ H (.str (S r)))
    (hk : ∀ d H', Ex H H' → H' d = some (.xd (fs2 c r)) → W (.ref C) (some d) σ H') : tMkO C (sp_I2 K) [] (tCons t1 (tCons t2 tNil)) σ H (fun cls d H' => W cls d σ H') :=
  ea_cons h1 (ea_cons h2 ea_nil) H (Ex.refl _) _ fun H2 e2 => ⟨(by show 2 ≤ 1000; decide), fun a na => ⟨a, C, c, r, rfl, hl, upd_same, oe, nf, fun dx H' hdx ne m =>
    ⟨rfl, dx, _, m.1, m.2.1, upd_none hdx, xm_raise e2 na (upd_none hdx) m hk⟩⟩⟩
theorem init2_body {D : Ends} {a C : Addr} {r m : List Nat} {c : Nat} {tj : TE} {σ0 : L2.St} (hσ : σ0 = [some (.ref a), some (.int (c : Int)), some (.str (S r))]) (hj : Ev tj σ0 H (.str (S m))) (ha : H a = some (exo a C none)) (oe : OexC K C) (nf : Nf2 K C)
    (q : ∀ dx H', H dx = none → dx ≠ a → XMade H H' a C dx (fs2 c r) → D.nx σ0 H') : tSeq (tDrop (tVeI K (tCons (tVar 0) (tCons tj tNil)))) (tSeq (tOst K "column" (tVar 0) (tVar 1)) (tOst K "reason" (tVar 0) (tVar 2))) D σ0 H := by
  subst hσ
  refine q_beinit (ev_var rfl) hj oe ha fun H1 e1 => ?_
  refine ⟨_, rfl, _, rfl, a, C, rfl, oe, nf.c, .inl ⟨e1 _ _ ha, fun dx hd ne => ?_⟩⟩
  have m1 := xmade_new (C := C) (f := "column") (v := .int (c : Int)) e1 ne
  refine ⟨_, rfl, _, rfl, a, C, rfl, oe, nf.r, .inr ⟨dx, _, m1.1, m1.2.1, (by show 1 ≤ 900; decide), ?_⟩⟩
  exact q dx _ (fresh_back e1 hd) ne (m1.more (f := "reason") (v := .str (S r)) ne (Ex.refl _))
def Rz2 (H : Hp) (E : XK) (C : Addr) (c : Nat) (r : List Nat) : Prop := ∀ d H', Ex H H' → H' d = some (.xd (fs2 c r)) → E (.ref C) (some d) H'
theorem Rz2.mono {E : XK} {C : Addr} {r : List Nat} {c : Nat} (h : Rz2 H E C c r) (e : Ex H H') : Rz2 H' E C c r := fun d H2 e2 hd => h d H2 (e.trans e2) hd
theorem evd_tupOf {ta : TE} {p : Addr} {vs : List V} {ds : List PyData} (h : Ev ta σ H (.ref p)) (hp : H p = some (.lst vs)) (hd : DtA H vs ds) :
    EvD (tCB (fun xs H Q => ∃ p ys, xs = [.ref p] ∧ ((SqL K H p ys ∧ ∀ l, H l = none → Q (.ref l) (upd H l (.tup ys))) ∨ (SqT K H p ys ∧ Q (.ref p) H))) (tCons ta tNil)) σ H (.tuple ds) := fun H1 e Q q =>
  h H1 e _ fun H2 e2 => ⟨p, vs, rfl, .inl ⟨sq_of ((e.trans e2) _ _ hp), fun l hl => q _ _ (e2.trans (Ex.new hl)) (.tup upd_same ((hd.mono (e.trans e2)).mono (Ex.new hl)))⟩⟩
end
end Kn
/-! ### dead statements, defs with defaults, errors with one field of any kind, dicts with int keys -/
namespace Kn
open PySem PySem.Spec PyProof.Rows L2 Evl SX
theorem ps_dead {X : Cx} {st : Stmt} : PS X st (fun _ _ _ => False) := ⟨fun _ _ _ _ _ _ h => h.elim⟩
def rSortDI (K : PySem.W.Frag) : List V → Hp → VK → Prop := fun xs H Q => ∃ (a : Addr) (kvs : List (Key × V)) (ks : List Int), xs = [.ref a] ∧ Rd H a (.dK kvs) ∧ kvs.map (·.1) = ks.map Sum.inl ∧ ks.length < 64 ∧ ∀ (ys : List Int) (p : Addr), ys.Perm ks → ys.Pairwise (· ≤ ·) → H p = none → Q (.ref p) (upd H p (.lst (ys.map V.int)))
theorem cr_sortDI {X : Cx} (h : X.calm = true) : CallR X (.builtin "sorted") (rSortDI X.K) := call_sortedDI h
theorem cr_max2 {X : Cx} (h : X.calm = true) : CallR X (.builtin "max") Evl.rMax2 := call_max2 h
def rMn2 : List V → Hp → VK → Prop := fun xs H Q => ∃ i j : Int, xs = [.int i, .int j] ∧ Q (.int (if j < i then j else i)) H
theorem cr_min2 {X : Cx} (h : X.calm = true) : CallR X (.builtin "min") rMn2 := call_min2 h
/-- a class made by its name with its defaults -/
structure MkrD (P : Program) (w : World) (K : PySem.W.Frag) (mg : Str → Option Value) (base : Heap) (k : Nat) (x : Str) (C : Addr) (sp : Sp) (dvs : List V) : Prop where
  ex : ∃ (f : Addr) (fd : FuncData) (ps : List Str) (ds : List Value), Mk K C f ∧ FnOk P w K mg base CX0 k f fd ps sp ∧ mg x = some (.ref C) ∧ Binds K fd ps ds ∧ Vals dvs ds
theorem pe_mkrD0 {X : Cx} {k j : Nat} {C : Addr} {x : Str} {sp : Sp} {dvs : List V} {p pos : Pos} (c : MkrD X.prog X.w X.K X.mg X.base k x C sp dvs) (hr : Room j X.A) (hk : k + 1 ≤ j) (hg : Gl X x) (hdb : (x == ("__debug__" : Str)) = false := by decide) :
    PE X (.Call (.Name x p) [] [] pos) (tMake C sp dvs E0 tNil) := by
  obtain ⟨f, fd, ps, ds, M, F, hm, b, d⟩ := c.ex
  exact pe_make0 M F (hr.mono hk) hg hm b d pass0 hdb
theorem dfl_one {K : PySem.W.Frag} {T : Addr} {c : Value} {od : Option Addr} {n : Nat} {sl : Array (Option Value)} {u : Value} {v : V} (h : K.lookup T = some ⟨c, od, .seq #[u] n, sl⟩) (r : RelV v u) : DflV K (.ref T) [v] :=
  .inr ⟨by simp, T, _, [u], n, rfl, h, rfl, .cons r .nil⟩
section
variable {K : PySem.W.Frag} {σ : L2.St} {H H1 H' : Hp} {ta tb td ty te tv : TE} {D : Ends} {tz : TS} {a d C : Addr} {kvs : List (Key × V)} {k : Int} {v : V} {f : Str}
def sp_I1v (f : Str) (K : PySem.W.Frag) : Sp := fun vs H Q _ => ∃ (a C : Addr) (v : V), vs = [.ref a, v] ∧ H a = some (exo a C none) ∧ OexC K C ∧ PySem.W.findIn K (.ref C) f = some none ∧
  ∀ dx H', H dx = none → dx ≠ a → XMade H H' a C dx [(f, v)] → Q .non H'
theorem raise1v {W : WX} (oe : OexC K C) (nf : PySem.W.findIn K (.ref C) f = some none) (hv : Ev te σ H v)
    (hk : ∀ d H', Ex H H' → H' d = some (.xd [(f, v)]) → W (.ref C) (some d) σ H') : tMkO C (sp_I1v f K) [] (tCons te tNil) σ H (fun cls d H' => W cls d σ H') :=
  hv H (Ex.refl _) _ fun H2 e2 => ⟨(by show 1 ≤ 1000; decide), fun a na => ⟨a, C, v, rfl, upd_same, oe, nf, fun dx H' hdx ne m =>
    ⟨rfl, dx, _, m.1, m.2.1, upd_none hdx, xm_raise e2 na (upd_none hdx) m hk⟩⟩⟩
theorem init1v_body {m : List Nat} {tj : TE} (hj : Ev tj [some (.ref a), some v] H (.str (S m))) (ha : H a = some (exo a C none)) (oe : OexC K C) (nf : PySem.W.findIn K (.ref C) f = some none)
    (q : ∀ dx H', H dx = none → dx ≠ a → XMade H H' a C dx [(f, v)] → D.nx [some (.ref a), some v] H') : tSeq (tDrop (tVeI K (tCons (tVar 0) (tCons tj tNil)))) (tOst K f (tVar 0) (tVar 1)) D [some (.ref a), some v] H := by
  refine q_beinit (ev_var rfl) hj oe ha fun H1 e1 => ?_
  exact ⟨_, rfl, _, rfl, a, C, rfl, oe, nf, .inl ⟨e1 _ _ ha, fun dx hd ne => q dx _ (fresh_back e1 hd) ne (xmade_new e1 ne)⟩⟩
/-- raised: a new error with one field -/
def Rzv (H : Hp) (E : XK) (C : Addr) (f : Str) (v : V) : Prop := ∀ d H', Ex H H' → H' d = some (.xd [(f, v)]) → E (.ref C) (some d) H'
theorem Rzv.mono {E : XK} (h : Rzv H E C f v) (e : Ex H H') : Rzv H' E C f v := fun d H2 e2 hd => h d H2 (e.trans e2) hd
theorem ev_dgetI (h1 : Ev td σ H (.ref d)) (h2 : Ev ty σ H (.int k)) (hd : H d = some (.dK kvs)) (hv : valV kvs (Sum.inl k) = some v) : Ev (tDGet td ty) σ H v := fun H1 e Q q =>
  h1 H1 e _ fun H2 e2 => h2 H2 (e.trans e2) _ fun H3 e3 => ⟨d, v, rfl, by
    have g := DGet.k (k := (Sum.inl k : Key)) (((e.trans e2).trans e3) _ _ hd)
    rw [hv] at g
    exact g, q H3 (e2.trans e3)⟩
theorem ev_dinI (h2 : Ev ty σ H (.int k)) (h1 : Ev td σ H (.ref d)) (hd : H d = some (.dK kvs)) : Ev (tDIn ty td) σ H (.bl (valV kvs (Sum.inl k)).isSome) := fun H1 e Q q =>
  h2 H1 e _ fun H2 e2 => h1 H2 (e.trans e2) _ fun H3 e3 => ⟨d, _, rfl, DGet.k (k := (Sum.inl k : Key)) (((e.trans e2).trans e3) _ _ hd), q H3 (e2.trans e3)⟩
theorem ev_dninI (h2 : Ev ty σ H (.int k)) (h1 : Ev td σ H (.ref d)) (hd : H d = some (.dK kvs)) : Ev (tDNotIn ty td) σ H (.bl (!(valV kvs (Sum.inl k)).isSome)) := fun H1 e Q q =>
  h2 H1 e _ fun H2 e2 => h1 H2 (e.trans e2) _ fun H3 e3 => ⟨d, _, rfl, DGet.k (k := (Sum.inl k : Key)) (((e.trans e2).trans e3) _ _ hd), q H3 (e2.trans e3)⟩
theorem s_dputI (hv : Ev tv σ H v) (h1 : ∀ H1, Ex H H1 → Ev td σ H1 (.ref d)) (h2 : ∀ H1, Ex H H1 → Ev ty σ H1 (.int k)) (hd : H d = some (.dK kvs)) (hl : kvs.length < 100000) (q : ∀ H1, Ex H H1 → D.nx σ (L2.upd H1 d (.dK (putK kvs (Sum.inl k) v)))) : sDPut td ty tv D σ H :=
  hv H (Ex.refl H) _ fun H1 e1 => h1 H1 e1 H1 (Ex.refl H1) _ fun H2 e2 => h2 H2 (e1.trans e2) H2 (Ex.refl H2) _ fun H3 e3 => ⟨d, _, rfl, DPut.k (k := (Sum.inl k : Key)) (((e1.trans e2).trans e3) _ _ hd) (sz_lt hl), q H3 ((e1.trans e2).trans e3)⟩
theorem q_dputI (hv : Ev tv σ H v) (h1 : ∀ H1, Ex H H1 → Ev td σ H1 (.ref d)) (h2 : ∀ H1, Ex H H1 → Ev ty σ H1 (.int k)) (hd : H d = some (.dK kvs)) (hl : kvs.length < 100000) (q : ∀ H1, Ex H H1 → tz D σ (L2.upd H1 d (.dK (putK kvs (Sum.inl k) v)))) : tSeq (sDPut td ty tv) tz D σ H :=
  s_dputI (D := { D with nx := tz D }) hv h1 h2 hd hl q
theorem s_ddelI (h1 : Ev td σ H (.ref d)) (h2 : ∀ H1, Ex H H1 → Ev ty σ H1 (.int k)) (hd : H d = some (.dK kvs)) (hs : (valV kvs (Sum.inl k)).isSome = true) (q : ∀ H1, Ex H H1 → D.nx σ (L2.upd H1 d (.dK (dropK kvs (Sum.inl k))))) : sDDel td ty D σ H :=
  h1 H (Ex.refl H) _ fun H2 e2 => h2 H2 e2 H2 (Ex.refl H2) _ fun H3 e3 => ⟨d, kvs, Sum.inl k, rfl, (e2.trans e3) _ _ hd, rfl, hs, q H3 (e2.trans e3)⟩
theorem s_dpopI (h1 : Ev td σ H (.ref d)) (h2 : ∀ H1, Ex H H1 → Ev ty σ H1 (.int k)) (hd : H d = some (.dK kvs)) (hs : valV kvs (Sum.inl k) = some v) (q : ∀ H1, Ex H H1 → D.nx σ (L2.upd H1 d (.dK (dropK kvs (Sum.inl k))))) : tDrop (tDPop1 td ty) D σ H :=
  h1 H (Ex.refl H) _ fun H2 e2 => ⟨d, rfl, .inl ⟨kvs, .inl (e2 _ _ hd)⟩, h2 H2 e2 H2 (Ex.refl H2) _ fun H3 e3 => ⟨kvs, Sum.inl k, v, (e2.trans e3) _ _ hd, rfl, hs, q H3 (e2.trans e3)⟩⟩
end
theorem dta_ints {H : Hp} : ∀ ks : List Int, DtA H (ks.map V.int) (ks.map .int)
  | [] => .nil
  | k :: r => .cons (.int k) (dta_ints r)
theorem canL_ints : ∀ ks : List Int, PyData.canLayAll0 (ks.map .int) = true
  | [] => rfl
  | k :: r => can_cons (by simp [PyData.canLay0]) (canL_ints r)
theorem depth_ints : ∀ ks : List Int, PyData.depthAll (ks.map .int) = 0
  | [] => rfl
  | k :: r => by
    show max 0 (PyData.depthAll (r.map .int)) = 0
    rw [depth_ints r]
    rfl
theorem shaped_ints (ks : List Int) : SeqAt.shaped (.list (ks.map .int)) = true := by
  show (PyData.canLayAll0 (ks.map .int) && decide (PyData.depthAll (ks.map .int) + 1 ≤ 64)) = true
  rw [canL_ints ks, depth_ints]
  rfl
theorem ints_uniq {l m : List Int} (h1 : l.Pairwise (· ≤ ·)) (h2 : m.Pairwise (· ≤ ·)) (p : l.Perm m) : l = m :=
  List.Perm.eq_of_pairwise (fun _ _ _ _ a b => Int.le_antisymm a b) h1 h2 p
theorem cutV_some {τ : Type} {g : τ → V} (ns : List τ) (lo hi : Option Int) : ∃ ms : List τ, cutV (ns.map g) lo hi = ms.map g ∧ (∀ x ∈ ms, x ∈ ns) ∧ ms.length ≤ ns.length := by
  unfold cutV
  rw [List.length_map]
  refine ⟨(ns.drop (HT.sIx ns.length 0 lo)).take (HT.sIx ns.length ns.length hi - HT.sIx ns.length 0 lo), by rw [List.map_take, List.map_drop], fun x hx => List.mem_of_mem_drop (List.mem_of_mem_take hx), ?_⟩
  rw [List.length_take, List.length_drop]
  omega
section
variable {K : PySem.W.Frag} {σ : L2.St} {H H1 H' : Hp} {ta tb td ty te tv : TE} {a d C B dd : Addr} {kvs : List (Key × V)} {k : Int} {v : V} {f : Str} {fs : List (Str × V)} {i : Nat}
/-- a field of the error in hand -/
theorem ev_xf (hσ : σ[i]? = some (some (.ref a))) (hd : H dd = some (.xd fs)) (hl : fs.lookup f = some v) : Ev (tXf a (.ref C) (some dd) C f (tVar i)) σ H v := fun H1 e Q q =>
  ⟨_, hσ, rfl, rfl, dd, fs, v, rfl, e _ _ hd, hl, q H1 (Ex.refl _)⟩
theorem ev_isX (X : Xc K C B) (hσ : σ[i]? = some (some (.ref a))) (hd : H dd = some (.xd fs)) : Ev (tCB (rIsX K a (.ref C) (some dd)) (tCons (tVar i) (tCons (tC (.ref B)) tNil))) σ H (.bl true) := fun H1 e Q q =>
  ⟨_, hσ, C, dd, fs, .ref B, _, true, rfl, rfl, X.xc, e _ _ hd, rfl, fun u h => h, X.kB, q H1 (Ex.refl _)⟩
theorem evd_sortDI {ks ys : List Int} (hb : Ev tb σ H (.ref a)) (ha : H a = some (.dK kvs)) (hk : kvs.map (·.1) = ks.map Sum.inl) (hn : ks.length < 64) (hp : ys.Perm ks) (hs : ys.Pairwise (· ≤ ·)) : EvD (tCB (rSortDI K) (tCons tb tNil)) σ H (.list (ys.map .int)) := fun H1 e Q q =>
  hb H1 e _ fun H2 e2 => ⟨a, kvs, ks, rfl, .inl ((e.trans e2) _ _ ha), hk, hn, fun zs p hz hsz hnp => by
    have := ints_uniq hsz hs (hz.trans hp.symm)
    subst this
    exact q _ _ (e2.trans (Ex.new hnp)) (.lst upd_same (dta_ints _))⟩
theorem rv_neBB {b : Bool} : RV rNe (.bl b) (.bl b) H (.bl false) := fun H1 _ _ q => ⟨rfl, by
  have e : decide (V.bl b = V.bl b) = true := by simp
  rw [e]
  exact q H1 (Ex.refl H1)⟩
end
section
variable {K : PySem.W.Frag} {σ : L2.St} {H : Hp} {ta tb : TE}
theorem ev_mn2 {i j : Int} (ha : Ev ta σ H (.int i)) (hb : Ev tb σ H (.int j)) : Ev (tCB rMn2 (tCons ta (tCons tb tNil))) σ H (.int (if j < i then j else i)) := fun H1 e Q q =>
  ha H1 e _ fun H2 e2 => hb H2 (e.trans e2) _ fun H3 e3 => ⟨i, j, rfl, q H3 (e2.trans e3)⟩
theorem ev_ixLit {xs : List V} {v : V} {i : Nat} {j : Int} (ha : EvL ta σ H xs) (hb : Ev tb σ H (.int j)) (hj : j = (i : Int)) (h : xs[i]? = some v) : Ev (tOp (rIxL K) ta tb) σ H v := fun H1 e Q q =>
  ha H1 e _ fun p H2 np e2 hp => hb H2 (e.trans e2) _ fun H3 e3 => ⟨p, xs, j, v, rfl, rfl, sq_of (e3 _ _ hp), atI_nat' hj h, q H3 (e2.trans e3)⟩
end
section
variable {σ : L2.St} {H : Hp} {tA : TA} {sp : Sp} {E : XK} {vs : List V} {D : Ends} {tz tu tw : TS} {g : TG} {tc : TT} {b0 : Bool}
theorem q_asgC (hA : EvA tA σ H vs) (k : ∀ H1, Ex H H1 → sp vs H1 (fun v H2 => g v σ H2 (tz D)) E) : tSeq (tAsg (tCall sp [] E tA) g) tz D σ H := hA H (Ex.refl H) _ fun H1 e1 => by
  rw [List.append_nil]
  exact k H1 e1
/-- if not f(..): where the call may change the heap -/
theorem q_whenNC (hA : EvA tA σ H vs) (k : ∀ H1, Ex H H1 → sp vs H1 (fun v H2 => ∃ b, v = .bl b ∧ if (!b) = true then tu { D with nx := tz D } σ H2 else tw { D with nx := tz D } σ H2) E) : tSeq (tIfS (tNot (tB (tCall sp [] E tA))) tu tw) tz D σ H := hA H (Ex.refl H) _ fun H1 e1 => by
  rw [List.append_nil]
  exact k H1 e1
theorem q_whenAC (hc : EvT tc σ H b0) (hA : ∀ H1, Ex H H1 → EvA tA σ H1 vs) (k0 : b0 = false → ∀ H1, Ex H H1 → tw { D with nx := tz D } σ H1)
    (k : b0 = true → ∀ H1, Ex H H1 → sp vs H1 (fun v H2 => ∃ b, v = .bl b ∧ if (!b) = true then tu { D with nx := tz D } σ H2 else tw { D with nx := tz D } σ H2) E) : tSeq (tIfS (tAnd tc (tNot (tB (tCall sp [] E tA)))) tu tw) tz D σ H := hc H (Ex.refl H) _ fun H1 e1 => by
  cases b0 with
  | false => exact k0 rfl H1 e1
  | true =>
    refine hA H1 e1 H1 (Ex.refl H1) _ fun H2 e2 => ?_
    rw [List.append_nil]
    exact k rfl H2 (e1.trans e2)
end
end Kn

/-! ### set(xs) and len(set(xs)) of different texts -/
namespace Kn.Sets
open PySem PySem.Spec PyProof.Rows
section
variable {prog : Program} {w : World} {A : Around}
/-- the texts that are in, behind i turns -/
def seen (xs : List Str) (i : Nat) : Str → Bool := fun z => (xs.take i).any (· == z)
theorem seen_next {xs : List Str} {i : Nat} {x : Str} (h : xs[i]? = some x) (z : Str) : (seen xs i z || decide (z = x)) = seen xs (i + 1) z := by
  unfold seen
  rw [List.take_add_one, h, List.any_append]
  congr 1
  show _ = ((x == z) || false)
  rw [Bool.or_false]
  by_cases e : z = x
  · rw [decide_eq_true e, e, beq_self_eq_true]
  · rw [decide_eq_false e]
    exact (beq_eq_false_iff_ne.mpr fun y => e y.symm).symm
theorem seen_not {xs : List Str} {i : Nat} {x : Str} (nd : xs.Nodup) (h : xs[i]? = some x) : seen xs i x = false := by
  unfold seen
  rw [List.any_eq_false]
  intro y hy
  obtain ⟨j, hj⟩ := List.mem_iff_getElem?.mp hy
  rw [List.getElem?_take] at hj
  split at hj
  · next hji =>
    intro e
    have e2 : y = x := by simpa using e
    have h1 := (List.getElem?_eq_some_iff.mp h).1
    have h2 := (List.getElem?_eq_some_iff.mp hj).1
    have := (List.getElem?_inj (j := j) h1 nd).mp (h.trans (by rw [hj, e2]))
    omega
  · cases hj
/-- one turn after another -/
theorem turns {I S : Addr} {fp wr : List Addr} {G : Array GenState → Array GenState → Prop} {n : Nat} {Pi : Nat → Value → Prop} {St : Nat → Shared → Prop} {R : Result → Shared → Prop} (W : WalksS prog w A.in1 I fp wr G n Pi St) (hS : S ∉ fp)
    {xs : List Str} (hn : xs.length = n) (few : n + 1 < scanBound) (nd : xs.Nodup) (at' : ∀ i v, Pi i v → ∃ x t, xs[i]? = some x ∧ v = .str x t) (d : Nat) :
    ∀ (i : Nat) (s : Shared), i + d = n → St i s → s.heap.SetOf (PySem.strKind prog w) S (seen xs i) i →
      (∀ s', Moved (S :: wr) G s s' → s'.heap.SetOf (PySem.strKind prog w) S (seen xs n) n → R (.ok (.ret .none)) s') → codeAny (model prog w) A (.builtin "set.update.loop" ⟨[.ref S, .ref I], []⟩) R s := by
  have out : S ∉ wr := fun z => hS (W.sub _ z)
  have more : ∀ b ∈ wr, b ∈ S :: wr := fun b z => List.mem_cons_of_mem _ z
  have kept : ∀ {s s' : Shared} {f : Str → Bool} {m : Nat}, Moved wr G s s' → s.heap.SetOf (PySem.strKind prog w) S f m → s'.heap.SetOf (PySem.strKind prog w) S f m := fun hm ⟨o, es, ep, tb, ho, r⟩ => ⟨o, es, ep, tb, hm.heap S _ out ho, r⟩
  induction d with
  | zero =>
    intro i s e st so k
    obtain rfl : i = n := e
    refine codeAny_builtin F.entry_set_update_loop ?_
    rw [Around.under_plainId F.plain_set_update_loop _]
    exact wpAny_bind (W.done s _ _ st fun s' hm => wpAny_pure (k s' (hm.mono more) (kept hm so)))
  | succ d ih =>
    intro i s e st so k
    have lt : i < n := by omega
    refine codeAny_builtin F.entry_set_update_loop ?_
    rw [Around.under_plainId F.plain_set_update_loop _]
    refine wpAny_bind (W.item i s _ _ lt st fun v s' hP st' hm => ?_)
    obtain ⟨x, t, hx, rfl⟩ := at' i v hP
    have so1 := kept hm so
    refine wpAny_bind (m := holding [Value.str x t] (setAdd S (.str x t))) (wpAny_holding ?_)
    unfold setAdd
    refine wpAny_holding (wpAny_bind ((PySem.strKind prog w).pyHash (k := x) (strKind_is _ _ _ _) ?_))
    refine wpAny_setAddHashed_of (knd := PySem.strKind prog w) (s := { s' with toks := s'.toks + 1 }) (strKind_is _ _ _ _) rfl so1 (by omega) fun h' same so2 => ?_
    rw [if_neg (by rw [seen_not nd hx]; decide)] at so2
    have so3 := SetOf_congr so2 (seen_next hx) rfl
    refine wpAny_pure ⟨plainId_quiet F.plain_set_update_loop _, ih (i + 1) _ (by omega) (W.frame _ s' _ _ st' (Nat.le_succ _) fun b hb o e => ?_) so3 fun s2 hm2 so4 => ?_⟩
    · rw [same.2 b fun z => hS (z ▸ hb)]
      exact e
    · refine k s2 (Moved.trans W.gtrans ((hm.mono more).then_heap (Nat.le_succ _) fun b o hb e => ?_) hm2) so4
      rw [same.2 b fun z => hb (z ▸ List.mem_cons_self)]
      exact e
end
/-- a new set, empty -/
def newS (led : Bool) : Obj := { cls := .type "set", dict := none, data := .set #[] 0 (.fresh 0 0 led) }
/-- a walk's iterator over the list at l -/
def itS (l : Addr) : Obj := { cls := .type "list_iterator", data := .fields #[.ref l, .int 0 0] }
/-- the texts are in the set at the end of h; h' keeps what was in h -/
def Full (prog : Program) (w : World) (h : Heap) (xs : List Str) (h' : Heap) : Prop := h'.SetOf (PySem.strKind prog w) h.objs.size (seen xs xs.length) xs.length ∧ ∀ b o, b < h.objs.size → h.get? b = some o → h'.get? b = some o
section
variable {prog : Program} {w : World} {A : Around} {E : Value → Shared → Prop} {s : Shared}
theorem make {l : Addr} {items : Array Value} {xs : List Str} {Q : Value → Shared → Prop} (hh : A.handled = none) (hl : s.heap.IsList l items) (at' : ∀ (i : Nat) (v : Value), items[i]? = some v → ∃ (x : Str) (t : Tok), xs[i]? = some x ∧ v = .str x t) (hn : xs.length = items.size) (nd : xs.Nodup) (few : items.size + 1 < scanBound)
    (q : ∀ (h' : Heap) (tk : Nat), Full prog w s.heap xs h' → Q (.ref s.heap.objs.size) { s with heap := h', toks := tk }) : wpAny (model prog w) A (call (.type "set") [.ref l]) Q E s := by
  have z1 := PySem.F.called_set.made
  have z2 := PySem.F.called_set.sub
  have z3 := PySem.F.called_set.notType
  have z4 := PySem.F.called_set.canCreate
  have z5 := PySem.F.typeCall_set_1 (.ref l)
  have ⟨_, _, z6⟩ := PySem.F.called_set.mro
  refine wpAny_call (codeAny_of_tree (show wpAny _ _ (callAny (.type "set") _) _ _ _ from wpAny_pure ⟨Code.quiet_builtin _ (by decide +kernel), codeAny_builtin PySem.F.entry_type_call ?_⟩))
  rw [Around.under_plain (weight_type_call_type "set" [.ref l] []) rfl]
  repeat (any_goals (first | assumption | wp_step))
  refine codeAny_mono (code_set_new_1 (.ref l) (E := E) (Q₁ := fun v s1 => ∃ led, v = .ref s.heap.objs.size ∧ s1 = { s with heap := s.heap.push (newS led) }) fun led => ⟨led, rfl, rfl⟩) fun r s1 hr => ?_
  match r, hr with
  | .error e, hr => exact hr
  | .ok (.ret v), hr =>
    obtain ⟨led, rfl, rfl⟩ := hr
    have new : (s.heap.push (newS led)).get? s.heap.objs.size = some (newS led) := Heap.get?_push_size _ rfl
    have isS : Shared.TypeIs { s with heap := s.heap.push (newS led) } (.ref s.heap.objs.size) "set" := ⟨_, new, rfl⟩
    have z7 := PySem.F.called_set.init.lookup
    have z8 := PySem.F.called_set.init.bind (.ref s.heap.objs.size)
    repeat (any_goals (first | assumption | wp_step))
    refine codeAny_mono (codeAny_call_builtin (R := wants (fun r s2 => r = .none ∧ ∃ h' tk, s2 = { s with heap := h', toks := tk } ∧ Full prog w s.heap xs h') E) PySem.F.called_set.init.plain PySem.F.entry_set_init (check_set_init_1 isS ?_)) fun r2 s2 hr2 => ?_
    · obtain ⟨⟨oc, od, oda, osl⟩, ho, hcl, m, hda⟩ := hl
      cases (show oc = .type "list" from hcl)
      cases (show oda = .seq items m from hda)
      have ho2 : (s.heap.push (newS led)).get? l = some { cls := .type "list", dict := od, data := .seq items m, slots := osl } := Heap.get?_push_of_some _ ho
      have hl2 : (s.heap.push (newS led)).IsList l items := ⟨_, ho2, rfl, m, rfl⟩
      have y1 := PySem.F.sub_list_set
      have y2 := PySem.F.sub_list_frozenset
      have y3 : (Value.type "list" == Value.type "dict") = false := by decide
      unfold Builtin.«set.__init__» noKeywords Builtin.Frozenset.updateFrom
      generalize hp : pyIter = pI
      wp_walk
      subst hp
      refine wpAny_pyIter_list hl2 (wpAny_bind (wpAny_runValue ?_))
      have ll : l < s.heap.objs.size := Heap.lt_size ho
      have sz : (s.heap.push (newS led)).objs.size = s.heap.objs.size + 1 := Heap.size_push ..
      have n1 : l ≠ (s.heap.push (newS led)).objs.size := by rw [sz]; exact Nat.ne_of_lt (Nat.lt_succ_of_lt ll)
      have n2 : s.heap.objs.size ∉ [(s.heap.push (newS led)).objs.size, l] := by simp only [List.mem_cons, List.not_mem_nil, or_false, sz, not_or]; exact ⟨Nat.ne_of_lt (Nat.lt_succ_self _), Nat.ne_of_gt ll⟩
      have so : ((s.heap.push (newS led)).push (itS l)).SetOf (PySem.strKind prog w) s.heap.objs.size (seen xs 0) 0 := SetOf_congr ((setObjOf_fresh (knd := PySem.strKind prog w) led).setOf (Heap.get?_push_of_some _ new) (by unfold scanBound; omega)) (fun _ => rfl) rfl
      refine turns ((Walks.list (show A.in1.in1.in1.handled = none by simp [hh]) _ l n1 items).toS) n2 hn (by omega) nd at' items.size 0 _ (by omega) ⟨⟨_, Heap.get?_push_size _ rfl, rfl, rfl⟩, hl2.push _⟩ so fun s' hm so' => ?_
      obtain ⟨h', g', d', tk', os'⟩ := s'
      cases (show g' = s.gens from hm.gens)
      cases (show d' = s.drawn from hm.drawn)
      cases (show os' = s.os from hm.os)
      refine wpAny_pure (wpAny_pure ⟨rfl, h', tk', rfl, by rw [hn]; exact so', fun b o hb e => ?_⟩)
      refine hm.heap b o ?_ (Heap.get?_push_of_some _ (Heap.get?_push_of_some _ e))
      simp only [List.mem_cons, List.not_mem_nil, or_false, sz, not_or]
      exact ⟨Nat.ne_of_lt hb, Nat.ne_of_lt (Nat.lt_succ_of_lt hb)⟩
    · match r2, hr2 with
      | .error e, hr2 => exact hr2
      | .ok (.ret v), hr2 =>
        obtain ⟨rfl, h', tk, rfl, f⟩ := hr2
        repeat (any_goals (first | assumption | wp_step))
        exact q _ _ f
end
end Kn.Sets
namespace Kn
open PySem PySem.Spec PyProof.Rows L2
section
variable {X : Cx}
/-- len(set(xs)), xs a list of different texts -/
def tLenSetN (K : PySem.W.Frag) (ta : TE) : TE := fun σ H Q => ta σ H fun x H1 => ∃ (l : Addr) (xs : List Str), x = .ref l ∧ SqL K H1 l (xs.map V.str) ∧ xs.Nodup ∧ xs.length ≤ 4000 ∧ Q (.int xs.length) H1
theorem texts_at {xs : List Str} {us : List Value} (r : Vals (xs.map V.str) us) : xs.length = us.length ∧ ∀ (i : Nat) (v : Value), us[i]? = some v → ∃ (x : Str) (t : Tok), xs[i]? = some x ∧ v = .str x t := by
  refine ⟨by rw [← r.length, List.length_map], fun i v h => ?_⟩
  have lt : i < xs.length := by
    have := (List.getElem?_eq_some_iff.mp h).1
    rw [← r.length, List.length_map] at this
    exact this
  obtain ⟨u, hu, ru⟩ := r.get (i := i) (x := .str xs[i]) (by simp [lt])
  cases h.symm.trans hu
  obtain ⟨t, rfl⟩ := ru
  exact ⟨xs[i], t, List.getElem?_eq_getElem lt, rfl⟩
theorem pe_lenSetN {a : Expr} {ta : TE} {p p2 q pos : Pos} (hc : X.calm = true) (hg : Gl X "len") (hm : X.mg "len" = none) (hg2 : Gl X "set") (hm2 : X.mg "set" = none) (ha : PE X a ta)
    (na : starEach [a] X.env = (false, eval a X.env) :: starEach [] X.env := by rfl) : PE X (.Call (.Name "len" p) [.Call (.Name "set" p2) [a] [] q] [] pos) (tLenSetN X.K ta) := ⟨fun pins s σ H Q I h => by
  refine Call_ (ld_blt I hg hm boot_len (callWith_builtin1 (args_cons ?_ rfl) rfl rfl))
  refine Call_ (ld_blt I hg2 hm2 boot_set (callWith_type1 (args_cons (thn (ha.run pins s σ H _ I h) fun v s1 z => args_nil ?_) na) na rfl))
  obtain ⟨x, H1, I1, r1, l, xs, rfl, hq, nd, few, q1⟩ := z
  cases r1
  obtain ⟨us, r, pl, _⟩ := I1.list hq
  obtain ⟨hl, at'⟩ := texts_at r
  have hsz : xs.length = us.toArray.size := by rw [List.size_toArray]; exact hl
  refine Sets.make (I1.ok.hd hc) pl.isList (fun i v e => at' i v (by simpa using e)) hsz nd (by unfold scanBound; omega) fun h' tk f => args_nil ?_
  obtain ⟨⟨o, es, ep, t, ho, hex, hd, _, _, _, hf, hn⟩, hk⟩ := f
  have I2 : Inv X pins σ H1 { s1 with heap := h', toks := tk } := I1.kept fun b o e => hk b o (Heap.lt_size e) e
  exact call_len_set ho hex hd hf (by rw [hn]; omega) ⟨.int xs.length, H1, I2.tok _, ⟨_, by rw [hn]⟩, q1⟩⟩
end
end Kn

/-! ### rules: is True, classes made with arguments, texts of digits, enumerate, comprehensions of new tuples -/
namespace Kn
open PySem PySem.Spec PyProof.Rows L2 Evl SX
def snV : V → Bool
  | .non => true
  | .bl _ => true
  | .int _ => true
  | _ => false
def rIsB : R2 := fun x y H Q => ∃ b, y = .bl b ∧ snV x = true ∧ Q (.bl (decide (x = .bl b))) H
theorem op_isB {X : Cx} : OpR X (compareOp .Is) rIsB := by
  intro pins s σ H x y v u Q I rx ry h
  obtain ⟨b, rfl, hx, q⟩ := h
  cases ry
  cases x with
  | non => cases rx; exact wpAny_pure (fin_bl I q (by simp))
  | bl c => cases rx; exact wpAny_pure (fin_bl I q (by cases b <;> cases c <;> rfl))
  | int i => obtain ⟨t, rfl⟩ := rx; exact wpAny_pure (fin_bl I q (by simp))
  | _ => cases hx
section
variable {X : Cx} {k j : Nat} {C : Addr} {x m : Str} {sp : Sp} {p pos apos : Pos} {e o : Expr} {es : List Expr} {ta : TE} {t : TA}
theorem pe_mkr (c : Mkr X.prog X.w X.K X.mg X.base k x C sp) (hr : Room j X.A) (hk : k + 1 ≤ j) (hg : Gl X x) (ha : PA X (e :: es) t) (hdb : (x == ("__debug__" : Str)) = false := by decide)
    (hst : starEach (e :: es) X.env = (false, eval e X.env) :: starEach es X.env := by rfl) (hpl : (backTo pos (starEach es X.env)).any (·.1) = false := by rfl) :
    PE X (.Call (.Name x p) (e :: es) [] pos) (tMake C sp [] E0 t) := by
  obtain ⟨f, fd, ps, M, F, hm, b⟩ := c.ex
  exact pe_make M F (hr.mono hk) hg hm b .nil pass0 ha hdb hst hpl
end
def rAsc : V → List V → Hp → VK → Prop := fun x xs H Q => ∃ a, x = .str a ∧ xs = [] ∧ True ∧ Q (.bl (Txt.isascii a)) H
theorem mt_asc {X : Cx} : MtR X "str.isascii" rAsc := L2.mt_isascii
def rDig : V → List V → Hp → VK → Prop := fun x xs H Q => ∃ a, x = .str a ∧ xs = [] ∧ True ∧ Q (.bl (Txt.isdigit a)) H
theorem mt_dig {X : Cx} : MtR X "str.isdigit" rDig := L2.mt_isdigit
def rPart : V → List V → Hp → VK → Prop := fun x xs H Q => ∃ a b, x = .str a ∧ xs = [.str b] ∧ (b.length == 0) = false ∧ a.length ≤ sizeLine ∧ ∀ p, H p = none → Q (.ref p) (upd H p (.tup [.str (Txt.partition a b).1, .str (Txt.partition a b).2.1, .str (Txt.partition a b).2.2]))
theorem mt_part {X : Cx} : MtR X "str.partition" rPart := L2.mt_partition
def rIntS : List V → Hp → VK → Prop := fun xs H Q => ∃ a n, xs = [.str a] ∧ PySem.intText? a = some n ∧ a.length ≤ 640 ∧ Q (.int n) H
theorem cr_intS {X : Cx} : CallR X (.type "int") rIntS := call_int_str
def rTupS (K : PySem.W.Frag) : List V → Hp → VK → Prop := fun xs H Q => ∃ p ys, xs = [.ref p] ∧ ((SqL K H p ys ∧ ∀ l, H l = none → Q (.ref l) (upd H l (.tup ys))) ∨ (SqT K H p ys ∧ Q (.ref p) H))
theorem cr_tupS {X : Cx} : CallR X (.type "tuple") (rTupS X.K) := call_tuple_of
theorem cr_listS {X : Cx} : CallR X (.type "list") (rListS X.K) := call_list_of
section
variable {K : PySem.W.Frag} {σ : L2.St} {H H1 H' : Hp} {ta tb tc te tl tas : TE} {tA : TA} {a d C p : Addr} {v x : V} {D : Ends} {tu tw tz : TS} {xs ys : List V}
theorem EvU.mono (e : Ex H H') (h : EvU te σ H xs) : EvU te σ H' xs := fun H1 a Q q => h H1 (e.trans a) Q q
theorem rv_isB {b : Bool} (hx : snV x = true) : RV rIsB x (.bl b) H (.bl (decide (x = .bl b))) := fun H1 _ _ q => ⟨b, rfl, hx, q H1 (Ex.refl H1)⟩
theorem ev_asc {l : List Nat} (h : Ev ta σ H (.str (S l))) : Ev (tM0 rAsc ta) σ H (.bl (Txt.isascii (S l))) := fun H1 e Q q => h H1 e _ fun H2 e2 => ⟨⟨S l, rfl⟩, S l, rfl, rfl, trivial, q H2 e2⟩
theorem ev_dig {l : List Nat} (h : Ev ta σ H (.str (S l))) : Ev (tM0 rDig ta) σ H (.bl (Txt.isdigit (S l))) := fun H1 e Q q => h H1 e _ fun H2 e2 => ⟨⟨S l, rfl⟩, S l, rfl, rfl, trivial, q H2 e2⟩
theorem ev_intS {l : List Nat} {n : Int} (h : Ev ta σ H (.str (S l))) (hn : PySem.intText? (S l) = some n) (hl : l.length ≤ 640) : Ev (tCB rIntS (tCons ta tNil)) σ H (.int n) := fun H1 e Q q => h H1 e _ fun H2 e2 => ⟨S l, n, rfl, hn, by rw [S_len]; exact hl, q H2 e2⟩
theorem eu_tupL (h : EvL ta σ H xs) : EvU (tCB (rTupS K) (tCons ta tNil)) σ H xs := fun H1 e Q q => h H1 e _ fun p H2 np e2 hp => ⟨p, xs, rfl, .inl ⟨sq_of hp, fun l hl => q _ _ (fresh_back e2 hl) (e2.trans (Ex.new hl)) upd_same⟩⟩
theorem el_listT (h : Ev ta σ H (.ref p)) (hp : H p = some (.tup xs)) : EvL (tCB (rListS K) (tCons ta tNil)) σ H xs := fun H1 e Q q => h H1 e _ fun H2 e2 => ⟨p, xs, rfl, .inr (st_of ((e.trans e2) _ _ hp)), fun l hl => q _ _ (fresh_back e2 hl) (e2.trans (Ex.new hl)) upd_same⟩
theorem el_listU (h : EvU ta σ H xs) : EvL (tCB (rListS K) (tCons ta tNil)) σ H xs := fun H1 e Q q => h H1 e _ fun p H2 np e2 hp => ⟨p, xs, rfl, .inr (st_of hp), fun l hl => q _ _ (fresh_back e2 hl) (e2.trans (Ex.new hl)) upd_same⟩
theorem el_cat (h1 : EvL ta σ H xs) (h2 : EvL tb σ H ys) (hz : xs.length + ys.length ≤ 100000) : EvL (tOp rCat ta tb) σ H (xs ++ ys) := fun H1 e Q q =>
  h1 H1 e _ fun p H2 np e2 hp => h2 H2 (e.trans e2) _ fun b H3 nb e3 hb => ⟨p, b, xs, ys, rfl, rfl, e3 _ _ hp, hb, sz_of hz, fun l hl => q _ _ (fresh_back (e2.trans e3) hl) ((e2.trans e3).trans (Ex.new hl)) upd_same⟩
theorem eu_cat (h1 : EvU ta σ H xs) (h2 : EvU tb σ H ys) (hz : xs.length + ys.length ≤ 100000) (n1 : xs ≠ []) (n2 : ys ≠ []) : EvU (tOp (rCatT K) ta tb) σ H (xs ++ ys) := fun H1 e Q q =>
  h1 H1 e _ fun p H2 np e2 hp => h2 H2 (e.trans e2) _ fun b H3 nb e3 hb => ⟨p, b, xs, ys, rfl, rfl, st_of (e3 _ _ hp), st_of hb, n1, sz_of hz, fun z => absurd z n2, fun _ l hl => q _ _ (fresh_back (e2.trans e3) hl) ((e2.trans e3).trans (Ex.new hl)) upd_same⟩
/-- part of a tuple, not all of it -/
theorem eu_sl {tl th : TO} {lo hi : Option Int} (h : Ev te σ H (.ref p)) (h1 : EvO tl σ H lo) (h2 : EvO th σ H hi) (hp : H p = some (.tup xs)) (hne : ¬ (HT.sIx xs.length 0 lo = 0 ∧ HT.sIx xs.length xs.length hi = xs.length)) : EvU (tSl (rSlT K) te tl th) σ H (cutV xs lo hi) := fun H0 e Q q =>
  h H0 e _ fun H2 e2 => h1 H2 (e.trans e2) _ fun H3 e3 => h2 H3 ((e.trans e2).trans e3) _ fun H4 e4 => ⟨p, xs, rfl, st_of ((((e.trans e2).trans e3).trans e4) _ _ hp), hne, fun l hl => q _ _ (fresh_back ((e2.trans e3).trans e4) hl) (((e2.trans e3).trans e4).trans (Ex.new hl)) upd_same⟩
theorem ev_lenT (ha : Ev ta σ H (.ref p)) (h : H p = some (.tup xs)) : Ev (tCB (rLenS K) (tCons ta tNil)) σ H (.int (xs.length : Int)) := fun H1 e Q q => ha H1 e _ fun H2 e2 => ⟨p, xs, rfl, .inr (st_of ((e.trans e2) _ _ h)), q H2 e2⟩
theorem ev_revL (ha : Ev ta σ H (.ref p)) (h : SqL K H p xs) : EvL (tRevL K ta) σ H xs.reverse := fun H1 e Q q => ha H1 e _ fun H2 e2 => ⟨p, xs, rfl, ex_l (e.trans e2) h, fun l hl => q _ _ (fresh_back e2 hl) (e2.trans (Ex.new hl)) upd_same⟩
theorem et_isi {b : Bool} (h : Ev ta σ H (.bl b)) : EvT (tB ta) σ H b := et_B h
/-- len(set(..)) of a new list of different texts -/
theorem ev_lenSetV {ls : List (List Nat)} (h : Ev ta σ H (.ref p)) (hp : SqL K H p (ls.map fun l => V.str (S l))) (nd : ls.Nodup) (hl : ls.length ≤ 4000) : Ev (tLenSetN K ta) σ H (.int (ls.length : Int)) := fun H1 e Q q =>
  h H1 e _ fun H2 e2 => ⟨p, ls.map S, rfl, by rw [List.map_map]; exact ex_l (e.trans e2) hp, List.pairwise_map.mpr (nd.imp fun h z => h (S_inj z)), by rw [List.length_map]; exact hl, by rw [List.length_map]; exact q H2 e2⟩
/-! texts that begin with a text -/
theorem starts_pre {l m : List Nat} (hm : m ≠ []) : Txt.startswith (S l) (S m) = TL.pre m l := by
  have h := TL.at_iff (x := S l) (y := S m) hm 0
  unfold Txt.startswith
  rw [Bool.eq_iff_iff, Bool.and_eq_true, decide_eq_true_eq]
  exact h
theorem ev_startsG {l m : List Nat} (ha : Ev ta σ H (.str (S l))) (hb : Ev tb σ H (.str (S m))) (hm : m ≠ []) : Ev (tM1 rStarts ta tb) σ H (.bl (TL.pre m l)) := fun H1 e Q q =>
  ha H1 e _ fun H2 e2 => ⟨⟨S l, rfl⟩, hb H2 (e.trans e2) _ fun H3 e3 => ⟨S l, S m, rfl, rfl, by rw [starts_pre hm]; exact q H3 (e2.trans e3)⟩⟩
end
end Kn
namespace Kn
open PySem PySem.Spec PyProof.Rows L2 Evl SX
section
variable {K : PySem.W.Frag} {σ : L2.St} {H H1 H' : Hp} {ta tb tc te tl tas : TE} {t : TT} {tA : TA} {a d C p : Addr} {v x : V} {D : Ends} {tu tw tz : TS} {xs ys : List V}
theorem str_nat (n : Nat) : (toString ((n : Nat) : Int) : Str) = S (TL.numL n) := TL.ext_tl (TL.tl_num n)
theorem ev_fmtN {n : Nat} (h : Ev te σ H (.int (n : Int))) (hn : n.log2 < 1920) : Ev (tFmt te) σ H (.str (S (TL.numL n))) := fun H1 e Q q => h H1 e _ fun H2 e2 => .inr ⟨(n : Int), rfl, by rw [Int.natAbs_natCast]; exact hn, by rw [str_nat]; exact q H2 e2⟩
theorem ev_fmtZ {i : Int} (h : Ev te σ H (.int i)) (hn : i.natAbs.log2 < 1920) : Ev (tFmt te) σ H (.str (S (toString i : Str).cps.toList)) := fun H1 e Q q => h H1 e _ fun H2 e2 => .inr ⟨i, rfl, hn, q H2 e2⟩
theorem ev_strN {n : Nat} (h : Ev ta σ H (.int (n : Int))) (hn : n.log2 < 1920) : Ev (tCB rStrInt (tCons ta tNil)) σ H (.str (S (TL.numL n))) := fun H1 e Q q => h H1 e _ fun H2 e2 => ⟨(n : Int), rfl, by rw [Int.natAbs_natCast]; exact hn, by rw [str_nat]; exact q H2 e2⟩
theorem el_lcT {a : Addr} {xs : List V} {tl : TE} {j : Nat} {vs : List Nat} (f : Nat → Bool) (v : Nat → V) (h : Ev tl σ H (.ref a)) (hx : H a = some (.tup xs)) (hz : xs.length ≤ 40000) (hw : ∀ x, wipe ((wipe σ vs).set j (some x)) vs = wipe σ vs)
    (ht : ∀ (i : Nat) (x : V) H1, Ex H H1 → xs[i]? = some x → EvT t ((wipe σ vs).set j (some x)) H1 (f i)) (he : ∀ (i : Nat) (x : V) H1, Ex H H1 → xs[i]? = some x → f i = true → Ev te ((wipe σ vs).set j (some x)) H1 (v i)) :
    EvL (tLc (iTup K tl) (gName j) t te vs) σ H (given xs.length f v) := fun H0 e Q q => h H0 e _ fun H1 e1 => ⟨a, rfl, ⟨xs, st_of ((e.trans e1) _ _ hx)⟩, fun Dl hD =>
  lc_it (walk_tup (xs := xs)) (Cw H1 f v Dl) ⟨hD, Ex.new hD, upd_same⟩ (fun i H' _ p => st_of (p.2.1 _ _ ((e.trans e1) _ _ hx))) (fun i x H2 H3 hi p y => by
    obtain ⟨rfl, hy⟩ := y
    exact ⟨hw x, cw_turn p (by omega) (ht i x H1 (e.trans e1) hy) (fun hf => he i x H1 (e.trans e1) hy hf)⟩)
    (fun H' p => q Dl H' (fresh_back e1 p.1) (e1.trans p.2.1) p.2.2)⟩
/-- over a tuple, each item mapped -/
theorem el_lcTM {τ : Type} {a : Addr} {ns : List τ} {g f : τ → V} {tl : TE} {j : Nat} {vs : List Nat} (h : Ev tl σ H (.ref a)) (hx : H a = some (.tup (ns.map g))) (hz : ns.length ≤ 40000) (hw : ∀ x, wipe ((wipe σ vs).set j (some x)) vs = wipe σ vs)
    (he : ∀ n ∈ ns, ∀ H1, Ex H H1 → Ev te ((wipe σ vs).set j (some (g n))) H1 (f n)) : EvL (tLc (iTup K tl) (gName j) tYes te vs) σ H (ns.map f) := by
  have z := el_lcT (K := K) (te := te) (t := tYes) (fun _ => true) (fun i => (ns[i]?.map f).getD .non) h hx (by rw [List.length_map]; exact hz) hw (fun _ _ _ _ _ => et_yes) (fun i x H1 e1 hi _ => by
    rw [List.getElem?_map] at hi
    obtain ⟨n, hn, rfl⟩ := Option.map_eq_some_iff.mp hi
    show Ev _ _ _ ((ns[i]?.map f).getD .non)
    rw [hn]
    exact he n (List.mem_of_getElem? hn) H1 e1)
  rw [List.length_map, given_all] at z
  exact z
/-- a new list of new tuples -/
def EvNs (te : TE) (σ : L2.St) (H : Hp) (ys : List (List V)) : Prop := ∀ H1, Ex H H1 → ∀ Q : VK, (∀ p (as : List Addr) H2, H1 p = none → Ex H1 H2 → H2 p = some (.lst (as.map V.ref)) → Paired (fun a y => H2 a = some (.tup y)) as ys → Q (.ref p) H2) → te σ H1 Q
def Cn (H : Hp) (g : Nat → List V) (Dl : Addr) (i : Nat) (H' : Hp) : Prop := H Dl = none ∧ Ex H H' ∧ ∃ as : List Addr, H' Dl = some (.lst (as.map V.ref)) ∧ Paired (fun a y => H' a = some (.tup y)) as ((List.range i).map g)
theorem pair_snoc {α β : Type} {F : α → β → Prop} {a : α} {b : β} (h : F a b) : ∀ {as : List α} {bs : List β}, Paired F as bs → Paired F (as ++ [a]) (bs ++ [b])
  | _, _, .nil => .cons h .nil
  | _, _, .cons x r => .cons x (pair_snoc h r)
theorem cn_turn {H H' : Hp} {g : Nat → List V} {Dl : Addr} {i : Nat} {σ2 : L2.St} (p : Cn H g Dl i H') (hi : i < 50000) (he : EvU te σ2 H (g i)) :
    tYes σ2 H' fun b H3 => if b = true then te σ2 H3 fun y H4 => ∃ acc, H4 Dl = some (.lst acc) ∧ acc.length < sizeLine ∧ Cn H g Dl (i + 1) (upd H4 Dl (.lst (acc ++ [y]))) else Cn H g Dl (i + 1) H3 := by
  obtain ⟨p1, p2, as, p3, p4⟩ := p
  show te σ2 H' _
  have hl : as.length = i := by rw [Paired.length p4, List.length_map, List.length_range]
  refine he H' p2 _ fun q H4 nq e4 hq => ⟨as.map V.ref, e4 Dl _ p3, sz_lt (by rw [List.length_map]; omega), p1, Ex.mut (p2.trans e4) p1, as ++ [q], by rw [List.map_append]; exact upd_same, ?_⟩
  rw [List.range_succ, List.map_append]
  refine pair_snoc ?_ (Paired.mapP p4 fun b y hb => ?_)
  · rw [upd_ne (ne_of hq (e4 _ _ p3) (by intro z; cases z))]
    exact hq
  · rw [upd_ne (ne_of (e4 _ _ hb) (e4 _ _ p3) (by intro z; cases z))]
    exact e4 _ _ hb
theorem ns_lcNL {xs : List V} {tl : TE} {j : Nat} {vs : List Nat} (g : Nat → List V) (h : EvL tl σ H xs) (hz : xs.length ≤ 40000) (hw : ∀ x, wipe ((wipe σ vs).set j (some x)) vs = wipe σ vs)
    (he : ∀ (i : Nat) (x : V) H1, Ex H H1 → xs[i]? = some x → EvU te ((wipe σ vs).set j (some x)) H1 (g i)) :
    EvNs (tLc (iList K tl) (gName j) tYes te vs) σ H ((List.range xs.length).map g) := fun H0 e Q q => h H0 e _ fun a H1 ha e1 hx => ⟨a, rfl, ⟨xs, sq_of hx⟩, fun Dl hD =>
  lc_list (xs := xs) (Cn H1 g Dl) ⟨hD, Ex.new hD, [], upd_same, .nil⟩ (fun i H' _ p => sq_of (p.2.1 a _ hx)) (fun i x H' hi p => ⟨hw x, cn_turn p (by have := (List.getElem?_eq_some_iff.mp hi).1; omega) (he i x H1 (e.trans e1) hi)⟩)
    (fun H' p => by
      obtain ⟨p1, p2, as, p3, p4⟩ := p
      exact q Dl as H' (fresh_back e1 p1) (e1.trans p2) p3 p4)⟩
/-- over a list that lies there -/
theorem ns_lcL {a : Addr} {xs : List V} {tl : TE} {j : Nat} {vs : List Nat} (g : Nat → List V) (h : Ev tl σ H (.ref a)) (hx : SqL K H a xs) (hz : xs.length ≤ 40000) (hw : ∀ x, wipe ((wipe σ vs).set j (some x)) vs = wipe σ vs)
    (he : ∀ (i : Nat) (x : V) H1, Ex H H1 → xs[i]? = some x → EvU te ((wipe σ vs).set j (some x)) H1 (g i)) :
    EvNs (tLc (iList K tl) (gName j) tYes te vs) σ H ((List.range xs.length).map g) := fun H0 e Q q => h H0 e _ fun H1 e1 => ⟨a, rfl, ⟨xs, ex_l (e.trans e1) hx⟩, fun Dl hD =>
  lc_list (xs := xs) (Cn H1 g Dl) ⟨hD, Ex.new hD, [], upd_same, .nil⟩ (fun i H' _ p => ex_l ((e.trans e1).trans p.2.1) hx) (fun i x H' hi p => ⟨hw x, cn_turn p (by have := (List.getElem?_eq_some_iff.mp hi).1; omega) (he i x H1 (e.trans e1) hi)⟩)
    (fun H' p => by
      obtain ⟨p1, p2, as, p3, p4⟩ := p
      exact q Dl as H' (fresh_back e1 p1) (e1.trans p2) p3 p4)⟩
theorem ns_lcR {n : Int} {j : Nat} {vs : List Nat} (g : Nat → List V) (h : EvA tA σ H [.int n]) (hn : 0 ≤ n ∧ n ≤ 40000) (hw : ∀ x, wipe ((wipe σ vs).set j (some x)) vs = wipe σ vs)
    (he : ∀ (i : Nat) H1, Ex H H1 → (i : Int) < n → EvU te ((wipe σ vs).set j (some (.int (i : Int)))) H1 (g i)) :
    EvNs (tLc (iRng1 tA) (gName j) tYes te vs) σ H ((List.range n.toNat).map g) := fun H0 e Q q => h H0 e _ fun H1 e1 => ⟨n, rfl, by omega, by omega, fun Dl hD =>
  lc_range (lo := 0) (n := n.toNat) (Cn H1 g Dl) ⟨hD, Ex.new hD, [], upd_same, .nil⟩ (fun i H' hi p => by
    have e0 : (0 : Int) + (i : Int) = (i : Int) := Int.zero_add _
    show wipe ((wipe σ vs).set j (some (.int ((0 : Int) + (i : Int))))) vs = wipe σ vs ∧ tYes ((wipe σ vs).set j (some (.int ((0 : Int) + (i : Int))))) H' fun b H3 => if b = true then te ((wipe σ vs).set j (some (.int ((0 : Int) + (i : Int))))) H3 fun y H4 => ∃ acc, H4 Dl = some (.lst acc) ∧ acc.length < sizeLine ∧ Cn H1 g Dl (i + 1) (upd H4 Dl (.lst (acc ++ [y]))) else Cn H1 g Dl (i + 1) H3
    rw [e0]
    exact ⟨hw _, cn_turn p (by omega) (he i H1 (e.trans e1) (by omega))⟩) (fun H' p => by
      obtain ⟨p1, p2, as, p3, p4⟩ := p
      exact q Dl as H' (fresh_back e1 p1) (e1.trans p2) p3 p4)⟩
/-- tuple(..) of such a list -/
def EvNt (te : TE) (σ : L2.St) (H : Hp) (ys : List (List V)) : Prop := ∀ H1, Ex H H1 → ∀ Q : VK, (∀ p (as : List Addr) H2, H1 p = none → Ex H1 H2 → H2 p = some (.tup (as.map V.ref)) → Paired (fun a y => H2 a = some (.tup y)) as ys → Q (.ref p) H2) → te σ H1 Q
theorem nt_tup {ys : List (List V)} (h : EvNs te σ H ys) : EvNt (tCB (rTupS K) (tCons te tNil)) σ H ys := fun H1 e Q q => h H1 e _ fun p as H2 np e2 hp hP =>
  ⟨p, as.map V.ref, rfl, .inl ⟨sq_of hp, fun l hl => q _ as _ (fresh_back e2 hl) (e2.trans (Ex.new hl)) upd_same (Paired.mapP hP fun b y hb => Ex.new hl _ _ hb)⟩⟩
theorem q_asgN {i : Nat} {ys : List (List V)} (h : EvNt te σ H ys) (k : ∀ p (as : List Addr) H1, H p = none → Ex H H1 → H1 p = some (.tup (as.map V.ref)) → Paired (fun a y => H1 a = some (.tup y)) as ys → tz D (σ.set i (some (.ref p))) H1) : tSeq (tAsg te (gName i)) tz D σ H := h H (Ex.refl H) _ fun p as H1 hp e h1 h2 => k p as H1 hp e h1 h2
/-- for i, x in enumerate(xs) -/
theorem q_forEn {a : Addr} {xs : List V} {tl : TE} {i j : Nat} (h : Ev tl σ H (.ref a)) (hx : SqL K H a xs) (Pv : Nat → L2.St → Hp → Prop) (h0 : ∀ H1, Ex H H1 → Pv 0 σ H1) (hl : ∀ n σ' H', n ≤ xs.length → Pv n σ' H' → SqL K H' a xs)
    (hs : ∀ n x σ' H' H2, xs[n]? = some x → Pv n σ' H' → Ex H' H2 → tu { D with nx := Pv (n + 1), ct := Pv (n + 1), bk := tz D } ((σ'.set i (some (.int (n : Int)))).set j (some x)) H2) (hd : ∀ σ' H', Pv xs.length σ' H' → tz D σ' H') :
    tSeq (tFor (iEnum K (tCons tl tNil)) (gTup K 2 (gCons (gName i) (gCons (gName j) gNil))) tu) tz D σ H :=
  h H (Ex.refl H) _ fun H1 e => ⟨a, xs, rfl, ex_l e hx, for_it (D := { D with nx := tz D }) walk_enum Pv (h0 H1 e) hl (fun n v σ' H2 H3 hn p y => by
    obtain ⟨T, u, w, rfl, nT, rfl, hu, hw⟩ := y
    cases hu
    exact unp2 upd_same (hs n w σ' H2 _ hw p (Ex.new nT))) hd⟩
end
end Kn
/-! ### errors with a number -/
namespace Kn
open PySem PySem.Spec PyProof.Rows L2 Evl SX
section
variable {K : PySem.W.Frag} {σ : L2.St} {H H1 H' : Hp} {te : TE} {C a : Addr} {f : Str} {i : Int}
def SmI (i : Int) : Prop := i.natAbs.log2 < 1920 ∧ (toString i : Str).cps.toList.length ≤ 1000
theorem small_I : ∀ i : Nat, i < 1100 → SmI ((i : Int) - 50) := by unfold SmI; decide +kernel
theorem sm_I {i : Int} (h : -50 ≤ i) (h2 : i < 1050) : SmI i := by
  have z := small_I (i + 50).toNat (by omega)
  rw [show (((i + 50).toNat : Nat) : Int) - 50 = i by omega] at z
  exact z
def sp_I1z (f : Str) (K : PySem.W.Frag) : Sp := fun vs H Q _ => ∃ (a C : Addr) (i : Int), vs = [.ref a, .int i] ∧ SmI i ∧ H a = some (exo a C none) ∧ OexC K C ∧ PySem.W.findIn K (.ref C) f = some none ∧
  ∀ dx H', H dx = none → dx ≠ a → XMade H H' a C dx [(f, .int i)] → Q .non H'
theorem raise1z {W : WX} (oe : OexC K C) (nf : PySem.W.findIn K (.ref C) f = some none) (hi : SmI i) (hv : Ev te σ H (.int i))
    (hk : ∀ d H', Ex H H' → H' d = some (.xd [(f, .int i)]) → W (.ref C) (some d) σ H') : tMkO C (sp_I1z f K) [] (tCons te tNil) σ H (fun cls d H' => W cls d σ H') :=
  hv H (Ex.refl H) _ fun H2 e2 => ⟨(by show 1 ≤ 1000; decide), fun a na => ⟨a, C, i, rfl, hi, upd_same, oe, nf, fun dx H' hdx ne m =>
    ⟨rfl, dx, _, m.1, m.2.1, upd_none hdx, xm_raise e2 na (upd_none hdx) m hk⟩⟩⟩
end
end Kn

/-! ### keys of texts -/
namespace Kn.Rp
open PySem PySem.Spec PyProof.Rows L2 Evl SX Kn
def key (l : List Nat) : Nat := l.foldl (fun a c => a * 128 + c) 1
theorem key_snoc (l : List Nat) (c : Nat) : key (l ++ [c]) = key l * 128 + c := by
  unfold key
  rw [List.foldl_append]
  rfl
theorem key_pos (l : List Nat) : 1 ≤ key l := by
  have h : ∀ (l : List Nat) (a : Nat), 1 ≤ a → 1 ≤ l.foldl (fun a c => a * 128 + c) a := fun l => by
    induction l with
    | nil => exact fun a h => h
    | cons c r ih => exact fun a h => ih (a * 128 + c) (by omega)
  exact h l 1 (Nat.le_refl 1)
theorem key_inj_rev : ∀ (a b : List Nat), (∀ c ∈ a, c < 128) → (∀ c ∈ b, c < 128) → key a.reverse = key b.reverse → a = b
  | [], [], _, _, _ => rfl
  | [], d :: r, _, _, h => by
    rw [List.reverse_cons, key_snoc] at h
    have := key_pos r.reverse
    have e : key ([] : List Nat).reverse = 1 := rfl
    omega
  | c :: r, [], _, _, h => by
    rw [List.reverse_cons, key_snoc] at h
    have := key_pos r.reverse
    have e : key ([] : List Nat).reverse = 1 := rfl
    omega
  | c :: r, d :: t, h1, h2, h => by
    rw [List.reverse_cons, List.reverse_cons, key_snoc, key_snoc] at h
    have hc := h1 c List.mem_cons_self
    have hd := h2 d List.mem_cons_self
    have e1 : c = d := by omega
    have e2 : key r.reverse = key t.reverse := by omega
    rw [e1, key_inj_rev r t (fun x hx => h1 x (List.mem_cons_of_mem _ hx)) (fun x hx => h2 x (List.mem_cons_of_mem _ hx)) e2]
theorem key_inj {a b : List Nat} (h1 : ∀ c ∈ a, c < 128) (h2 : ∀ c ∈ b, c < 128) (h : key a = key b) : a = b := by
  have z := key_inj_rev a.reverse b.reverse (fun c hc => h1 c (List.mem_reverse.mp hc)) (fun c hc => h2 c (List.mem_reverse.mp hc)) (by rw [List.reverse_reverse, List.reverse_reverse]; exact h)
  exact List.reverse_inj.mp z
theorem key_lt : ∀ (l : List Nat) (a : Nat), (∀ c ∈ l, c < 128) → l.foldl (fun a c => a * 128 + c) a < (a + 1) * 128 ^ l.length
  | [], a, _ => by
    show a < (a + 1) * 128 ^ 0
    omega
  | c :: r, a, h => by
    have hc := h c List.mem_cons_self
    have ih := key_lt r (a * 128 + c) fun x hx => h x (List.mem_cons_of_mem _ hx)
    rw [List.foldl_cons, List.length_cons, Nat.pow_succ]
    refine Nat.lt_of_lt_of_le ih ?_
    have e : (a + 1) * (128 ^ r.length * 128) = (a + 1) * 128 * 128 ^ r.length := by
      rw [Nat.mul_comm (128 ^ r.length) 128, Nat.mul_assoc]
    rw [e]
    exact Nat.mul_le_mul_right _ (by omega)
theorem key_log {l : List Nat} (h : ∀ c ∈ l, c < 128) (hl : l.length ≤ 200) : (key l).log2 < 1920 := by
  have h0 := key_pos l
  refine (Nat.log2_lt (by omega)).mpr (Nat.lt_of_lt_of_le (key_lt l 1 h) ?_)
  have e : 128 ^ l.length ≤ 128 ^ 200 := Nat.pow_le_pow_right (by decide) hl
  refine Nat.le_trans (Nat.mul_le_mul_left _ e) (by decide +kernel)
theorem hv_bit : ∀ d, d < 2 → L2.Hx.hv (48 + d) = d := by decide
theorem fold_pad (a d : Nat) (h : d < 128) : (Bi.pad7 d).foldl (fun a c => a * 2 + L2.Hx.hv c) a = a * 128 + d := by
  unfold Bi.pad7
  simp only [List.foldl_cons, List.foldl_nil]
  rw [hv_bit _ (Nat.mod_lt _ (by decide)), hv_bit _ (Nat.mod_lt _ (by decide)), hv_bit _ (Nat.mod_lt _ (by decide)), hv_bit _ (Nat.mod_lt _ (by decide)), hv_bit _ (Nat.mod_lt _ (by decide)), hv_bit _ (Nat.mod_lt _ (by decide)), hv_bit _ (Nat.mod_lt _ (by decide))]
  omega
theorem fold_pads : ∀ (l : List Nat) (a : Nat), (∀ c ∈ l, c < 128) → ((l.map Bi.pad7).flatten).foldl (fun a c => a * 2 + L2.Hx.hv c) a = l.foldl (fun a c => a * 128 + c) a
  | [], a, _ => rfl
  | c :: l, a, h => by
    rw [List.map_cons, List.flatten_cons, List.foldl_append, fold_pad a c (h c List.mem_cons_self), fold_pads l _ fun d hd => h d (List.mem_cons_of_mem _ hd)]
    rfl
theorem bin_key {l : List Nat} (h : ∀ c ∈ l, c < 128) : Bi.binNum ([49] ++ (l.map Bi.pad7).flatten) = key l := by
  unfold Bi.binNum key
  rw [List.foldl_append, ← fold_pads l 1 h]
  rfl
theorem isbin_pad (d : Nat) : ∀ c ∈ Bi.pad7 d, Bi.IsBin c := fun c hc => by
  unfold Bi.pad7 at hc
  simp only [List.mem_cons, List.not_mem_nil, or_false] at hc
  unfold Bi.IsBin
  omega
theorem bin_all (l : List Nat) : ∀ c ∈ [49] ++ (l.map Bi.pad7).flatten, Bi.IsBin c := fun c hc => by
  rcases List.mem_append.mp hc with h | h
  · rw [List.mem_singleton.mp h]
    exact .inr rfl
  · obtain ⟨x, hx, hc2⟩ := List.mem_flatten.mp h
    obtain ⟨d, _, rfl⟩ := List.mem_map.mp hx
    exact isbin_pad d c hc2
theorem flat_len : ∀ r : List Nat, ((r.map Bi.pad7).flatten).length = 7 * r.length
  | [] => rfl
  | d :: r => by
    rw [List.map_cons, List.flatten_cons, List.length_append, flat_len r, List.length_cons]
    show 7 + _ = _
    omega
theorem ev_fmt7 {σ : L2.St} {H : Hp} {te : TE} {d : Nat} (h : Ev te σ H (.int (d : Int))) (hd : d < 128) : Ev (Bi.tFmt7 te) σ H (.str (S (Bi.pad7 d))) := fun H1 e Q q =>
  h H1 e _ fun H2 e2 => ⟨d, rfl, hd, q H2 e2⟩
theorem ev_intBinL {σ : L2.St} {H : Hp} {ta tb : TE} {l : List Nat} (h : EvA (tCons ta (tCons tb tNil)) σ H [.str (S l), .int 2]) (hne : l ≠ []) (hb : ∀ c ∈ l, Bi.IsBin c) : Ev (tCB Bi.rIntBinL (tCons ta (tCons tb tNil))) σ H (.int ((Bi.binNum l : Nat) : Int)) := fun H1 e Q q =>
  h H1 e _ fun H2 e2 => ⟨l, rfl, hne, hb, q H2 e2⟩
end Kn.Rp
/-! ### records: what is written, and what is read -/
namespace Kn.Rp
open PySem PySem.Spec PyProof.Rows L2 Evl SX Kn
inductive Sn where
  | no
  | b (x : Bool)
  | k (n : Nat)
structure Nd where
  ws : List (List Nat)
  sn : Sn
structure Rc where
  outs : List (List Nat)
  key : Nat
  needs : List Nd
  res : List Nat
def snD : Sn → V
  | .no => .non
  | .b x => .bl x
  | .k n => .int (n : Int)
def strsV (ls : List (List Nat)) : List V := ls.map fun l => V.str (S l)
def ndD (d : Nd) : List V := strsV d.ws ++ [snD d.sn]
def yesL : List Nat := [121, 101, 115]
def nooL : List Nat := [110, 111]
def fmtSn : Sn → List Nat
  | .no => [45]
  | .b x => if x = true then yesL else nooL
  | .k n => TL.numL n
def fmtNd (d : Nd) : List Nat := TL.joinL [58] (d.ws ++ [fmtSn d.sn])
def fmtNds (l : List Nd) : List Nat := if l.length = 0 then [45] else TL.joinL [59] (l.map fmtNd)
def words (r : Rc) : List (List Nat) := [TL.joinL [44] r.outs, TL.numL r.key, fmtNds r.needs, TL.joinL [44] (r.res.map TL.numL)]
def fmtRc (r : Rc) : List Nat := TL.joinL [32] (words r)
/-- a record that lies in the heap -/
def fldR (o : Addr) (k : Nat) (t q : Addr) : List (Str × V) := putF "results" (.ref q) (putF "needs" (.ref t) (putF "rule_key" (.int (k : Int)) (putF "outputs" (.ref o) [])))
structure RcO (C : Addr) (H : Hp) (p : Addr) (r : Rc) : Prop where
  ex : ∃ (dx o t q : Addr) (as : List Addr), H p = some (.ins C dx (fldR o r.key t q)) ∧ H o = some (.tup (strsV r.outs)) ∧ H t = some (.tup (as.map V.ref)) ∧ Paired (fun a y => H a = some (.tup y)) as (r.needs.map ndD) ∧ H q = some (.tup (r.res.map fun n : Nat => V.int (n : Int)))
theorem RcO.mono {C : Addr} {H H1 : Hp} {p : Addr} {r : Rc} (h : RcO C H p r) (e : Ex H H1) : RcO C H1 p r := by
  obtain ⟨dx, o, t, q, as, h1, h2, h3, h4, h5⟩ := h.ex
  exact ⟨dx, o, t, q, as, e _ _ h1, e _ _ h2, e _ _ h3, Paired.mapP h4 fun _ _ z => e _ _ z, e _ _ h5⟩
theorem fr_o (o : Addr) (k : Nat) (t q : Addr) : (fldR o k t q).lookup ("outputs" : Str) = some (.ref o) := by rfl
theorem fr_k (o : Addr) (k : Nat) (t q : Addr) : (fldR o k t q).lookup ("rule_key" : Str) = some (.int (k : Int)) := by rfl
theorem fr_n (o : Addr) (k : Nat) (t q : Addr) : (fldR o k t q).lookup ("needs" : Str) = some (.ref t) := by rfl
theorem fr_r (o : Addr) (k : Nat) (t q : Addr) : (fldR o k t q).lookup ("results" : Str) = some (.ref q) := by rfl
/-- what reading a line comes to -/
def isNum (l : List Nat) : Bool := decide ((l.length : Int) ≤ 4000) && (Txt.isascii (S l) && (Txt.isdigit (S l) && !decide (l[0]? = some 48)))
def numOrNot (l : List Nat) : Bool := decide (l = [45]) || isNum l
def NS : List Nat := (Str.ofString "abcdefghijklmnopqrstuvwxyz0123456789_.").cps.toList
def IS : List Nat := (Str.ofString "abcdefghijklmnopqrstuvwxyz0123456789_").cps.toList
def LS : List Nat := (Str.ofString "abcdefghijklmnopqrstuvwxyz").cps.toList
def nameOk (G n : List Nat) : Bool := !(!(decide (1 ≤ (n.length : Int)) && decide ((n.length : Int) ≤ 12)) || decide (n[0]? = some 46)) && n.all fun c => decide (c ∈ G)
def pathOk (l : List Nat) : Bool := decide (((cut1 47 l).length : Int) ≤ 4) && (cut1 47 l).all (nameOk NS)
def patOk (l : List Nat) : Bool := decide (cnt 42 l = 1) && pathOk (l.map fun e => if e = 42 then 97 else e)
def npOk (l : List Nat) : Bool := !decide (47 ∈ l) && patOk l
def idOk (l : List Nat) : Bool := !(!(decide (1 ≤ (l.length : Int)) && decide ((l.length : Int) ≤ 12)) || !decide (l.getD 0 0 ∈ LS)) && l.all fun c => decide (c ∈ IS)
def folderOk (l : List Nat) : Bool := decide (l = []) || pathOk l
def fileL : List Nat := (Str.ofString "file").cps.toList
def hasL : List Nat := (Str.ofString "has").cps.toList
def lstL : List Nat := (Str.ofString "listing").cps.toList
def setL : List Nat := (Str.ofString "setting").cps.toList
def lnkL : List Nat := (Str.ofString "link").cps.toList
def needK (kind x y seen : List Nat) (n : Nat) : Bool :=
  if kind = lstL then decide (n = 4) && (folderOk x && (npOk y && isNum seen))
  else if n ≠ 3 then false
  else if kind = setL then idOk x && numOrNot seen
  else if kind = hasL then pathOk x && (decide (seen = yesL) || decide (seen = nooL))
  else (decide (kind = fileL) || decide (kind = lnkL)) && (pathOk x && numOrNot seen)
def needI (it : List (List Nat)) : Bool := needK (it.getD 0 []) (it.getD 1 []) (it.getD 2 []) (it.getD (it.length - 1) []) it.length
def needOk (w : List Nat) : Bool := needI (cut1 58 w)
def quest (w : List Nat) : Str := (Txt.rpartition (S w) (S [58])).1
def outsOk (ws : List (List Nat)) : Bool := decide (ws.length ≤ 3) && ws.all pathOk
def needsOk (ws : List (List Nat)) : Bool := decide (ws.length ≤ 60) && ws.all needOk
def readSn (w : List Nat) : Sn := if w = [45] then .no else if w = yesL then .b true else if w = nooL then .b false else .k (NumText.digitsVal w)
def readNd (w : List Nat) : Nd := ⟨(cut1 58 w).dropLast, readSn ((cut1 58 w).getLastD [])⟩
end Kn.Rp
/-! ### what is written is read back -/
namespace Kn.Rp
open PySem PySem.Spec PyProof.Rows L2 Evl SX Kn
theorem cut_join {c : Nat} {ps : List (List Nat)} (h : ps ≠ []) (h2 : ∀ p ∈ ps, c ∉ p) : cut1 c (TL.joinL [c] ps) = ps := TL.spl_join h h2
theorem dig_small : ∀ c, c < 128 → (Unicode.isDigit c = true ↔ (48 ≤ c ∧ c ≤ 57)) := by decide +kernel
theorem num_digits {l : List Nat} (h : NumText.AllDigits l) (hne : l ≠ []) : Txt.isascii (S l) = true ∧ Txt.isdigit (S l) = true := by
  have e1 : Txt.isascii (S l) = l.all (fun c => decide (c < 128)) := by
    unfold Txt.isascii
    show (l.toArray).all _ = _
    simp
  have e2 : Txt.isdigit (S l) = (decide (l.length > 0) && l.all Unicode.isDigit) := by
    unfold Txt.isdigit
    rw [S_len]
    show (decide (l.length > 0) && (l.toArray).all _) = _
    simp
  refine ⟨?_, ?_⟩
  · rw [e1, List.all_eq_true]
    intro c hc
    have := h c hc
    exact decide_eq_true (by omega)
  · rw [e2, Bool.and_eq_true, decide_eq_true_eq, List.all_eq_true]
    refine ⟨List.length_pos_iff.mpr hne, fun c hc => ?_⟩
    have := h c hc
    exact (dig_small c (by omega)).mpr this
theorem isnum_digits {l : List Nat} (h : isNum l = true) : NumText.AllDigits l ∧ l ≠ [] := by
  unfold isNum at h
  rw [Bool.and_eq_true, Bool.and_eq_true, Bool.and_eq_true] at h
  obtain ⟨_, h1, h2, _⟩ := h
  have e1 : Txt.isascii (S l) = l.all (fun c => decide (c < 128)) := by
    unfold Txt.isascii
    show (l.toArray).all _ = _
    simp
  have e2 : Txt.isdigit (S l) = (decide (l.length > 0) && l.all Unicode.isDigit) := by
    unfold Txt.isdigit
    rw [S_len]
    show (decide (l.length > 0) && (l.toArray).all _) = _
    simp
  rw [e1, List.all_eq_true] at h1
  rw [e2, Bool.and_eq_true, decide_eq_true_eq, List.all_eq_true] at h2
  exact ⟨fun c hc => (dig_small c (of_decide_eq_true (h1 c hc))).mp (h2.2 c hc), List.length_pos_iff.mp h2.1⟩
theorem num_head : ∀ (k n : Nat), n < 10 ^ k → 0 < n → ∃ c r, TL.numL n = c :: r ∧ c ≠ 48
  | 0, n, h, h0 => absurd h (by rw [Nat.pow_zero]; omega)
  | k + 1, n, h, h0 => by
    by_cases h10 : n < 10
    · exact ⟨_, _, TL.numL_lt h10, by omega⟩
    · obtain ⟨c, r, e, hc⟩ := num_head k (n / 10) (by rw [Nat.pow_succ] at h; omega) (by omega)
      exact ⟨c, r ++ [48 + n % 10], by rw [TL.numL_step (by omega), e]; rfl, hc⟩
def GK (n : Nat) : Prop := 0 < n ∧ n < 2 ^ 1900
theorem GK.ten {n : Nat} (h : GK n) : n < 10 ^ 600 := Nat.lt_trans h.2 (by decide +kernel)
theorem GK.len {n : Nat} (h : GK n) : (TL.numL n).length ≤ 600 := TL.numL_len (by decide) h.ten
theorem GK.log {n : Nat} (h : GK n) : n.log2 < 1920 := by
  have := h.1
  have := (Nat.log2_lt (by omega)).mpr h.2
  omega
theorem GK.num {n : Nat} (h : GK n) : isNum (TL.numL n) = true := by
  obtain ⟨c, r, e, hc⟩ := num_head 600 n h.ten h.1
  have hd := num_digits (TL.numL_digits n) (TL.numL_ne n)
  have hl := h.len
  unfold isNum
  rw [hd.1, hd.2, decide_eq_true (by omega), e]
  simp [hc]
theorem intS {l : List Nat} (h : NumText.AllDigits l) (hne : l ≠ []) (hl : l.length ≤ 640) : PySem.intText? (S l) = some ((NumText.digitsVal l : Nat) : Int) :=
  PySem.intText_digits (x := S l) h hne (by rw [S_len]; omega)
def GSn : Sn → Prop
  | .no => True
  | .b _ => True
  | .k n => GK n
theorem sn_free {s : Sn} (h : GSn s) {c : Nat} (hc : c = 58 ∨ c = 59 ∨ c = 32 ∨ c = 44) : c ∉ fmtSn s := by
  cases s with
  | no => rcases hc with rfl | rfl | rfl | rfl <;> decide
  | b x => cases x <;> rcases hc with rfl | rfl | rfl | rfl <;> decide
  | k n => exact TL.numL_free (by omega)
theorem num_not {n : Nat} {l : List Nat} (h : ∃ c ∈ l, c < 48 ∨ 57 < c) : TL.numL n ≠ l := fun e => by
  obtain ⟨c, hc, hh⟩ := h
  rw [← e] at hc
  exact TL.numL_free hh hc
theorem sn_read {s : Sn} (h : GSn s) : readSn (fmtSn s) = s := by
  cases s with
  | no => rfl
  | b x => cases x <;> rfl
  | k n =>
    show readSn (TL.numL n) = _
    unfold readSn
    rw [if_neg (num_not ⟨45, by decide, by decide⟩), if_neg (num_not ⟨121, by decide, by decide⟩), if_neg (num_not ⟨110, by decide, by decide⟩), TL.numL_val]
theorem sn_kn {s : Sn} (h : GSn s) (hb : ∀ b, s ≠ .b b) : numOrNot (fmtSn s) = true := by
  unfold numOrNot
  cases s with
  | no => rfl
  | b x => exact absurd rfl (hb x)
  | k n =>
    show (_ || isNum (TL.numL n)) = true
    rw [GK.num h, Bool.or_true]
/-- a word of a need: without the signs that part needs -/
def WOk (w : List Nat) : Prop := 58 ∉ w ∧ 59 ∉ w ∧ 32 ∉ w ∧ 44 ∉ w
inductive GNd : Nd → Prop
  | file {p : List Nat} {s : Sn} : pathOk p = true → WOk p → GSn s → (∀ b, s ≠ .b b) → GNd ⟨[fileL, p], s⟩
  | has {p : List Nat} {b : Bool} : pathOk p = true → WOk p → GNd ⟨[hasL, p], .b b⟩
  | lst {f p : List Nat} {n : Nat} : folderOk f = true → npOk p = true → WOk f → WOk p → GK n → GNd ⟨[lstL, f, p], .k n⟩
  | set {p : List Nat} {s : Sn} : idOk p = true → WOk p → GSn s → (∀ b, s ≠ .b b) → GNd ⟨[setL, p], s⟩
  | lnk {p : List Nat} {s : Sn} : pathOk p = true → WOk p → GSn s → (∀ b, s ≠ .b b) → GNd ⟨[lnkL, p], s⟩
theorem kinds_ok : WOk fileL ∧ WOk hasL ∧ WOk lstL ∧ WOk setL ∧ WOk lnkL := by unfold WOk; decide +kernel
theorem GNd.sn {d : Nd} (h : GNd d) : GSn d.sn := by
  cases h <;> first | assumption | exact trivial
theorem GNd.ws {d : Nd} (h : GNd d) : d.ws ≠ [] ∧ ∀ w ∈ d.ws, WOk w := by
  obtain ⟨k1, k2, k3, k4, k5⟩ := kinds_ok
  cases h with
  | file h1 h2 h3 h4 => exact ⟨by simp, fun w hw => by rcases List.mem_cons.mp hw with rfl | hw; exact k1; rcases List.mem_cons.mp hw with rfl | hw; exact h2; cases hw⟩
  | has h1 h2 => exact ⟨by simp, fun w hw => by rcases List.mem_cons.mp hw with rfl | hw; exact k2; rcases List.mem_cons.mp hw with rfl | hw; exact h2; cases hw⟩
  | lst h1 h2 h3 h4 h5 => exact ⟨by simp, fun w hw => by rcases List.mem_cons.mp hw with rfl | hw; exact k3; rcases List.mem_cons.mp hw with rfl | hw; exact h3; rcases List.mem_cons.mp hw with rfl | hw; exact h4; cases hw⟩
  | set h1 h2 h3 h4 => exact ⟨by simp, fun w hw => by rcases List.mem_cons.mp hw with rfl | hw; exact k4; rcases List.mem_cons.mp hw with rfl | hw; exact h2; cases hw⟩
  | lnk h1 h2 h3 h4 => exact ⟨by simp, fun w hw => by rcases List.mem_cons.mp hw with rfl | hw; exact k5; rcases List.mem_cons.mp hw with rfl | hw; exact h2; cases hw⟩
theorem GNd.items {d : Nd} (h : GNd d) {w : List Nat} (hw : w ∈ d.ws ++ [fmtSn d.sn]) {c : Nat} (hc : c = 58 ∨ c = 59 ∨ c = 32 ∨ c = 44) : c ∉ w := by
  rcases List.mem_append.mp hw with z | z
  · obtain ⟨h1, h2, h3, h4⟩ := h.ws.2 w z
    rcases hc with rfl | rfl | rfl | rfl
    · exact h1
    · exact h2
    · exact h3
    · exact h4
  · rw [List.mem_singleton.mp z]
    exact sn_free h.sn hc
theorem join_free {s c : Nat} (hs : s ≠ c) : ∀ {ps : List (List Nat)}, (∀ p ∈ ps, c ∉ p) → c ∉ TL.joinL [s] ps
  | [], _ => by simp [TL.joinL]
  | [p], h => by
    show c ∉ p
    exact h p List.mem_cons_self
  | p :: q :: r, h => by
    show c ∉ p ++ ([s] ++ TL.joinL [s] (q :: r))
    simp only [List.mem_append, List.mem_singleton, not_or]
    exact ⟨h p List.mem_cons_self, fun z => hs z.symm, join_free hs fun x hx => h x (List.mem_cons_of_mem _ hx)⟩
theorem GNd.free {d : Nd} (h : GNd d) {c : Nat} (hc : c = 59 ∨ c = 32 ∨ c = 44) : c ∉ fmtNd d := join_free (by omega) fun p hp => h.items hp (by omega)
theorem GNd.cut {d : Nd} (h : GNd d) : cut1 58 (fmtNd d) = d.ws ++ [fmtSn d.sn] := cut_join (by simp) fun p hp => h.items hp (.inl rfl)
theorem GNd.read {d : Nd} (h : GNd d) : readNd (fmtNd d) = d := by
  unfold readNd
  rw [h.cut, List.dropLast_concat]
  have e : (d.ws ++ [fmtSn d.sn]).getLastD [] = fmtSn d.sn := by simp
  rw [e, sn_read h.sn]
theorem GNd.need {d : Nd} (h : GNd d) : needOk (fmtNd d) = true := by
  unfold needOk
  rw [h.cut]
  cases h with
  | @file p s h1 h2 h3 h4 =>
    show needK fileL p (fmtSn s) (fmtSn s) 3 = true
    unfold needK
    rw [if_neg (by decide +kernel), if_neg (by simp), if_neg (by decide +kernel), if_neg (by decide +kernel)]
    show ((decide (fileL = fileL) || _) && (pathOk p && numOrNot (fmtSn s))) = true
    rw [decide_eq_true rfl, h1, sn_kn h3 h4]
    rfl
  | @has p b h1 h2 =>
    show needK hasL p (fmtSn (.b b)) (fmtSn (.b b)) 3 = true
    unfold needK
    rw [if_neg (by decide +kernel), if_neg (by simp), if_neg (by decide +kernel), if_pos rfl]
    show (pathOk p && (decide (fmtSn (.b b) = yesL) || decide (fmtSn (.b b) = nooL))) = true
    rw [h1]
    cases b <;> rfl
  | @lst f p n h1 h2 h3 h4 h5 =>
    show needK lstL f p (TL.numL n) 4 = true
    unfold needK
    rw [if_pos rfl]
    show (decide (4 = 4) && (folderOk f && (npOk p && isNum (TL.numL n)))) = true
    rw [h1, h2, GK.num h5]
    rfl
  | @set p s h1 h2 h3 h4 =>
    show needK setL p (fmtSn s) (fmtSn s) 3 = true
    unfold needK
    rw [if_neg (by decide +kernel), if_neg (by simp), if_pos rfl]
    show (idOk p && numOrNot (fmtSn s)) = true
    rw [h1, sn_kn h3 h4]
    rfl
  | @lnk p s h1 h2 h3 h4 =>
    show needK lnkL p (fmtSn s) (fmtSn s) 3 = true
    unfold needK
    rw [if_neg (by decide +kernel), if_neg (by simp), if_neg (by decide +kernel), if_neg (by decide +kernel)]
    show ((decide (lnkL = fileL) || decide (lnkL = lnkL)) && (pathOk p && numOrNot (fmtSn s))) = true
    rw [decide_eq_true (rfl : lnkL = lnkL), h1, sn_kn h3 h4, Bool.or_true]
    rfl
def questL (w : List Nat) : List Nat := TL.tl (Txt.rpartition (S w) (S [58])).1
theorem questS (w : List Nat) : (Txt.rpartition (S w) (S [58])).1 = S (questL w) := (S_tl _).symm
theorem GNd.quest {d : Nd} (h : GNd d) : questL (fmtNd d) = TL.joinL [58] d.ws := by
  have e : fmtNd d = TL.joinL [58] d.ws ++ 58 :: fmtSn d.sn := by
    unfold fmtNd
    rw [joinL_snoc _ _ h.ws.1]
    rfl
  unfold questL
  rw [e, rpart_some (sn_free h.sn (.inl rfl))]
structure GRc (r : Rc) : Prop where
  o1 : r.outs ≠ []
  o3 : r.outs.length ≤ 3
  on : r.outs.Nodup
  op : ∀ o ∈ r.outs, pathOk o = true ∧ 44 ∉ o ∧ 32 ∉ o
  kk : GK r.key
  n60 : r.needs.length ≤ 60
  nn : (r.needs.map fun d => TL.joinL [58] d.ws).Nodup
  nd : ∀ d ∈ r.needs, GNd d
  rl : r.res.length = r.outs.length
  rk : ∀ n ∈ r.res, GK n
theorem GRc.words {r : Rc} (g : GRc r) : cut1 32 (fmtRc r) = Kn.Rp.words r := by
  refine cut_join (by simp [Kn.Rp.words]) fun p hp => ?_
  have hn : ∀ n, 32 ∉ TL.numL n := fun n => TL.numL_free (by omega)
  simp only [Kn.Rp.words, List.mem_cons, List.not_mem_nil, or_false] at hp
  rcases hp with rfl | rfl | rfl | rfl
  · exact join_free (by decide) fun o ho => (g.op o ho).2.2
  · exact hn _
  · unfold fmtNds
    split
    · decide
    · refine join_free (by decide) fun p hp => ?_
      obtain ⟨d, hd, rfl⟩ := List.mem_map.mp hp
      exact (g.nd d hd).free (.inr (.inl rfl))
  · refine join_free (by decide) fun p hp => ?_
    obtain ⟨n, _, rfl⟩ := List.mem_map.mp hp
    exact hn n
theorem GRc.outs {r : Rc} (g : GRc r) : cut1 44 (TL.joinL [44] r.outs) = r.outs := cut_join g.o1 fun o ho => (g.op o ho).2.1
theorem GRc.res {r : Rc} (g : GRc r) : cut1 44 (TL.joinL [44] (r.res.map TL.numL)) = r.res.map TL.numL := by
  refine cut_join ?_ fun p hp => ?_
  · intro z
    have h1 := congrArg List.length z
    rw [List.length_map, g.rl] at h1
    exact g.o1 (List.length_eq_zero_iff.mp h1)
  · obtain ⟨n, _, rfl⟩ := List.mem_map.mp hp
    exact TL.numL_free (by omega)
/-- the words of the needs -/
def needW (w : List Nat) : List (List Nat) := if w = [45] then [] else cut1 59 w
theorem nd_not {d : Nd} (h : GNd d) : fmtNd d ≠ [45] := fun e => by
  have h1 := h.cut
  rw [e] at h1
  have h2 : cut1 58 [45] = [[45]] := by decide +kernel
  rw [h2] at h1
  have hl := congrArg List.length h1
  rw [List.length_append] at hl
  have h3 := List.length_pos_iff.mpr h.ws.1
  have hl2 : 1 = d.ws.length + 1 := hl
  omega
theorem GRc.needs {r : Rc} (g : GRc r) : needW (fmtNds r.needs) = r.needs.map fmtNd := by
  unfold needW fmtNds
  by_cases h0 : r.needs.length = 0
  · rw [if_pos h0, if_pos rfl, List.length_eq_zero_iff.mp h0]
    rfl
  · rw [if_neg h0]
    have hne : r.needs.map fmtNd ≠ [] := fun z => h0 (by have := congrArg List.length z; simpa using this)
    have hc : cut1 59 (TL.joinL [59] (r.needs.map fmtNd)) = r.needs.map fmtNd := cut_join hne fun p hp => by
      obtain ⟨d, hd, rfl⟩ := List.mem_map.mp hp
      exact (g.nd d hd).free (.inl rfl)
    rw [if_neg, hc]
    intro e
    rw [e] at hc
    have h2 : cut1 59 [45] = [[45]] := by decide +kernel
    rw [h2] at hc
    have hm : [45] ∈ r.needs.map fmtNd := by rw [← hc]; exact List.mem_singleton.mpr rfl
    obtain ⟨d, hd, z⟩ := List.mem_map.mp hm
    exact nd_not (g.nd d hd) z
theorem GRc.needs_ok {r : Rc} (g : GRc r) : needsOk (r.needs.map fmtNd) = true := by
  unfold needsOk
  rw [List.length_map, decide_eq_true g.n60, Bool.true_and, List.all_eq_true]
  intro w hw
  obtain ⟨d, hd, rfl⟩ := List.mem_map.mp hw
  exact (g.nd d hd).need
theorem GRc.quests {r : Rc} (g : GRc r) : ((r.needs.map fmtNd).map questL).Nodup := by
  have e : (r.needs.map fmtNd).map questL = r.needs.map fun d => TL.joinL [58] d.ws := by
    rw [List.map_map]
    exact List.map_congr_left fun d hd => (g.nd d hd).quest
  rw [e]
  exact g.nn
theorem GRc.outs_ok {r : Rc} (g : GRc r) : outsOk r.outs = true := by
  unfold outsOk
  rw [decide_eq_true g.o3, Bool.true_and, List.all_eq_true]
  exact fun o ho => (g.op o ho).1
theorem GRc.reads {r : Rc} (g : GRc r) : (r.needs.map fmtNd).map readNd = r.needs := by
  rw [List.map_map]
  have : ∀ l : List Nd, (∀ d ∈ l, GNd d) → l.map (readNd ∘ fmtNd) = l := fun l => by
    induction l with
    | nil => exact fun _ => rfl
    | cons d t ih =>
      intro h
      rw [List.map_cons, ih fun x hx => h x (List.mem_cons_of_mem _ hx)]
      show readNd (fmtNd d) :: t = _
      rw [(h d List.mem_cons_self).read]
  exact this _ g.nd
end Kn.Rp

/-! ### the records that the laws draw -/
namespace Kn.Rp
open PySem PySem.Spec PyProof.Rows L2 Evl SX Kn
def L37 : List Nat := (Str.ofString "abcdefghijklmnopqrstuvwxyz0123456789_").cps.toList
def nameN (n k : Nat) : List Nat := [L37.getD ((n + 7 * k) % 26) 0] ++ [L37.getD ((n / 3 + k) % 37) 0] ++ TL.numL (n % 97)
def pathN (n : Nat) : List Nat := TL.joinL [47] ((List.range (1 + n % 3)).map (nameN n))
def partsL : List (List Nat) := [[], [97], [10], [120, 32, 121], [126], [48], [114, 117, 108, 101, 115], [92], [92, 110]]
def textN (n : Nat) : List Nat := partsL.getD (n % 9) [] ++ TL.numL (n / 9 % 50)
def snN (n k : Nat) : Sn := if n % 5 = 0 then .no else .k (key (textN (n + k)))
def needN (n k : Nat) : Nd :=
  if n / 5 % 5 = 0 then ⟨[fileL, pathN n ++ TL.numL k], snN n k⟩
  else if n / 5 % 5 = 1 then ⟨[hasL, pathN n ++ TL.numL k], .b (decide (n % 2 = 0))⟩
  else if n / 5 % 5 = 2 then ⟨[lstL, [[], pathN n].getD (n % 2) [], [97, 42] ++ TL.numL k], .k (key (textN n))⟩
  else if n / 5 % 5 = 3 then ⟨[setL, [115] ++ TL.numL k], snN n k⟩
  else ⟨[lnkL, pathN n ++ TL.numL k], snN n k⟩
def outN (j k : Nat) : List Nat := [111, 117, 116] ++ TL.numL j ++ [120] ++ TL.numL k
def ruleN (m : Nat) : List Nat := [114, 117, 108, 101, 32] ++ TL.numL (m % 2)
def recN (ns : List Nat) (j : Nat) : Rc :=
  ⟨(List.range (1 + j % 3)).map (outN j), key (ruleN (ns.getD 11 0)), (List.range (ns.getD 0 0 % 5)).map fun k => needN (ns.getD (1 + k) 0) k, (List.range (1 + j % 3)).map fun k => key (textN (ns.getD (7 + k) 0))⟩
def wokB (w : List Nat) : Bool := w.all fun c => decide (c < 128) && !(decide (c = 58) || decide (c = 59) || decide (c = 32) || decide (c = 44))
theorem wok_of {w : List Nat} (h : wokB w = true) : WOk w ∧ ∀ c ∈ w, c < 128 := by
  unfold wokB at h
  rw [List.all_eq_true] at h
  have z : ∀ c ∈ w, c < 128 ∧ c ≠ 58 ∧ c ≠ 59 ∧ c ≠ 32 ∧ c ≠ 44 := fun c hc => by
    have := h c hc
    simp at this
    omega
  exact ⟨⟨fun hc => (z _ hc).2.1 rfl, fun hc => (z _ hc).2.2.1 rfl, fun hc => (z _ hc).2.2.2.1 rfl, fun hc => (z _ hc).2.2.2.2 rfl⟩, fun c hc => (z c hc).1⟩
theorem path_ok : ∀ n < 1000, (pathOk (pathN n) && wokB (pathN n) && decide ((pathN n).length ≤ 15) && (List.range 4).all fun k => pathOk (pathN n ++ TL.numL k)) = true := by decide +kernel
theorem small_ok : ∀ k < 4, (npOk ([97, 42] ++ TL.numL k) && wokB ([97, 42] ++ TL.numL k) && idOk ([115] ++ TL.numL k) && wokB ([115] ++ TL.numL k) && wokB (TL.numL k) && decide (TL.numL k = [48 + k])) = true := by decide +kernel
theorem text_ok : ∀ n < 1005, (decide (key (textN n) < 10 ^ 17) && (textN n).all fun c => decide (c < 128)) = true := by decide +kernel
theorem text_lt {n : Nat} (h : n < 1005) : key (textN n) < 10 ^ 17 ∧ ∀ c ∈ textN n, c < 128 := by
  have z := text_ok n h
  rw [Bool.and_eq_true, decide_eq_true_eq, List.all_eq_true] at z
  exact ⟨z.1, fun c hc => of_decide_eq_true (z.2 c hc)⟩
theorem text_gk {n : Nat} (h : n < 1005) : GK (key (textN n)) := ⟨key_pos _, Nat.lt_trans (text_lt h).1 (by decide +kernel)⟩
theorem text_len {n : Nat} (h : n < 1005) : (TL.numL (key (textN n))).length ≤ 17 := TL.numL_len (by decide) (text_lt h).1
theorem sn_gk {n k : Nat} (hn : n < 1000) (hk : k < 4) : GSn (snN n k) ∧ (∀ b, snN n k ≠ .b b) ∧ (fmtSn (snN n k)).length ≤ 17 := by
  unfold snN
  split
  · exact ⟨trivial, nofun, by decide⟩
  · exact ⟨text_gk (by omega), nofun, text_len (by omega)⟩
theorem app_wok {a b : List Nat} (ha : wokB a = true) (hb : wokB b = true) : wokB (a ++ b) = true := by
  unfold wokB at *
  rw [List.all_append, ha, hb]
  rfl
theorem need_good {n k : Nat} (hn : n < 1000) (hk : k < 4) : GNd (needN n k) := by
  have h1 := path_ok n hn
  rw [Bool.and_eq_true, Bool.and_eq_true, Bool.and_eq_true, List.all_eq_true] at h1
  obtain ⟨⟨⟨p1, p2⟩, p3⟩, p4⟩ := h1
  have p5 := p4 k (List.mem_range.mpr hk)
  have h2 := small_ok k hk
  simp only [Bool.and_eq_true] at h2
  obtain ⟨⟨⟨⟨⟨s1, s2⟩, s3⟩, s4⟩, s5⟩, s6⟩ := h2
  obtain ⟨g1, g2, g3⟩ := sn_gk hn hk
  have w1 := (wok_of (app_wok p2 s5)).1
  unfold needN
  split
  · exact .file p5 w1 g1 g2
  · split
    · exact .has p5 w1
    · split
      · refine .lst ?_ s1 ?_ (wok_of s2).1 (text_gk (by omega))
        · rcases Nat.mod_two_eq_zero_or_one n with z | z
          · rw [z]
            rfl
          · rw [z]
            show folderOk (pathN n) = true
            unfold folderOk
            rw [p1, Bool.or_true]
        · rcases Nat.mod_two_eq_zero_or_one n with z | z
          · rw [z]
            exact ⟨by simp, by simp, by simp, by simp⟩
          · rw [z]
            exact (wok_of p2).1
      · split
        · exact .set s3 (wok_of s4).1 g1 g2
        · exact .lnk p5 w1 g1 g2
theorem kind_len : fileL.length = 4 ∧ hasL.length = 3 ∧ lstL.length = 7 ∧ setL.length = 7 ∧ lnkL.length = 4 := by decide +kernel
theorem kind_128 : (∀ c ∈ fileL, c < 128) ∧ (∀ c ∈ hasL, c < 128) ∧ (∀ c ∈ lstL, c < 128) ∧ (∀ c ∈ setL, c < 128) ∧ (∀ c ∈ lnkL, c < 128) := by decide +kernel
theorem num_128 (n : Nat) : ∀ c ∈ TL.numL n, c < 128 := fun c hc => by
  have := TL.numL_digits n c hc
  omega
theorem sn_128 (s : Sn) : ∀ c ∈ fmtSn s, c < 128 := by
  cases s with
  | no => exact fun c hc => by rw [List.mem_singleton.mp hc]; decide
  | b x => cases x <;> (show ∀ c ∈ _, c < 128) <;> decide
  | k n => exact num_128 n
theorem join_lt {s : Nat} (hs : s < 128) : ∀ {ps : List (List Nat)}, (∀ p ∈ ps, ∀ c ∈ p, c < 128) → ∀ c ∈ TL.joinL [s] ps, c < 128
  | [], _ => fun c hc => by simp [TL.joinL] at hc
  | [p], h => fun c hc => h p List.mem_cons_self c hc
  | p :: q :: r, h => fun c hc => by
    have hc' : c ∈ p ++ ([s] ++ TL.joinL [s] (q :: r)) := hc
    rcases List.mem_append.mp hc' with z | z
    · exact h p List.mem_cons_self c z
    · rcases List.mem_append.mp z with z | z
      · rw [List.mem_singleton.mp z]
        exact hs
      · exact join_lt hs (fun x hx => h x (List.mem_cons_of_mem _ hx)) c z
theorem need_size {n k : Nat} (hn : n < 1000) (hk : k < 4) : (fmtNd (needN n k)).length ≤ 60 ∧ ∀ c ∈ fmtNd (needN n k), c < 128 := by
  have h1 := path_ok n hn
  rw [Bool.and_eq_true, Bool.and_eq_true, Bool.and_eq_true] at h1
  obtain ⟨⟨⟨_, p2⟩, p3⟩, _⟩ := h1
  have p3 := of_decide_eq_true p3
  have h2 := small_ok k hk
  simp only [Bool.and_eq_true] at h2
  obtain ⟨⟨⟨⟨⟨_, s2⟩, _⟩, s4⟩, s5⟩, s6⟩ := h2
  have e1 : (TL.numL k).length = 1 := by rw [of_decide_eq_true s6]; rfl
  obtain ⟨k1, k2, k3, k4, k5⟩ := kind_len
  obtain ⟨c1, c2, c3, c4, c5⟩ := kind_128
  obtain ⟨g1, g2, g3⟩ := sn_gk hn hk
  have tl := text_len (n := n) (by omega)
  have q := (wok_of p2).2
  have q2 := (wok_of (app_wok p2 s5)).2
  have two : ∀ (a b c : List Nat), (TL.joinL [58] [a, b, c]).length = a.length + b.length + c.length + 2 := fun a b c => by
    show (a ++ ([58] ++ (b ++ ([58] ++ c)))).length = _
    simp only [List.length_append, List.length_cons, List.length_nil]
    omega
  have three : ∀ (a b c d : List Nat), (TL.joinL [58] [a, b, c, d]).length = a.length + b.length + c.length + d.length + 3 := fun a b c d => by
    show (a ++ ([58] ++ (b ++ ([58] ++ (c ++ ([58] ++ d)))))).length = _
    simp only [List.length_append, List.length_cons, List.length_nil]
    omega
  have l1 : (pathN n ++ TL.numL k).length ≤ 16 := by rw [List.length_append]; omega
  unfold needN
  split
  · refine ⟨?_, join_lt (by decide) fun p hp => ?_⟩
    · show (TL.joinL [58] [fileL, pathN n ++ TL.numL k, fmtSn (snN n k)]).length ≤ 60
      rw [two]
      omega
    · have hp' : p ∈ [fileL, pathN n ++ TL.numL k, fmtSn (snN n k)] := hp
      simp only [List.mem_cons, List.not_mem_nil, or_false] at hp'
      rcases hp' with rfl | rfl | rfl
      · exact c1
      · exact q2
      · exact sn_128 _
  · split
    · refine ⟨?_, join_lt (by decide) fun p hp => ?_⟩
      · show (TL.joinL [58] [hasL, pathN n ++ TL.numL k, fmtSn (.b (decide (n % 2 = 0)))]).length ≤ 60
        rw [two]
        have : (fmtSn (.b (decide (n % 2 = 0)))).length ≤ 3 := by cases decide (n % 2 = 0) <;> decide
        omega
      · have hp' : p ∈ [hasL, pathN n ++ TL.numL k, fmtSn (.b (decide (n % 2 = 0)))] := hp
        simp only [List.mem_cons, List.not_mem_nil, or_false] at hp'
        rcases hp' with rfl | rfl | rfl
        · exact c2
        · exact q2
        · exact sn_128 _
    · split
      · have hd : ([[], pathN n].getD (n % 2) []).length ≤ 15 ∧ ∀ c ∈ [[], pathN n].getD (n % 2) [], c < 128 := by
          rcases Nat.mod_two_eq_zero_or_one n with z | z
          · rw [z]
            exact ⟨Nat.zero_le _, fun c hc => nomatch hc⟩
          · rw [z]
            exact ⟨p3, q⟩
        refine ⟨?_, join_lt (by decide) fun p hp => ?_⟩
        · show (TL.joinL [58] [lstL, [[], pathN n].getD (n % 2) [], [97, 42] ++ TL.numL k, TL.numL (key (textN n))]).length ≤ 60
          rw [three, List.length_append, e1]
          show _ + _ + (2 + 1) + _ + 3 ≤ 60
          omega
        · have hp' : p ∈ [lstL, [[], pathN n].getD (n % 2) [], [97, 42] ++ TL.numL k, TL.numL (key (textN n))] := hp
          simp only [List.mem_cons, List.not_mem_nil, or_false] at hp'
          rcases hp' with rfl | rfl | rfl | rfl
          · exact c3
          · exact hd.2
          · exact (wok_of s2).2
          · exact num_128 _
      · split
        · refine ⟨?_, join_lt (by decide) fun p hp => ?_⟩
          · show (TL.joinL [58] [setL, [115] ++ TL.numL k, fmtSn (snN n k)]).length ≤ 60
            rw [two, List.length_append, e1]
            show _ + (1 + 1) + _ + 2 ≤ 60
            omega
          · have hp' : p ∈ [setL, [115] ++ TL.numL k, fmtSn (snN n k)] := hp
            simp only [List.mem_cons, List.not_mem_nil, or_false] at hp'
            rcases hp' with rfl | rfl | rfl
            · exact c4
            · exact (wok_of s4).2
            · exact sn_128 _
        · refine ⟨?_, join_lt (by decide) fun p hp => ?_⟩
          · show (TL.joinL [58] [lnkL, pathN n ++ TL.numL k, fmtSn (snN n k)]).length ≤ 60
            rw [two]
            omega
          · have hp' : p ∈ [lnkL, pathN n ++ TL.numL k, fmtSn (snN n k)] := hp
            simp only [List.mem_cons, List.not_mem_nil, or_false] at hp'
            rcases hp' with rfl | rfl | rfl
            · exact c5
            · exact q2
            · exact sn_128 _
theorem app_last {a b : List Nat} (hb : b ≠ []) : (a ++ b).getLast? = b.getLast? := by
  rw [List.getLast?_append]
  cases h : b.getLast? with
  | none => exact absurd (List.getLast?_eq_none_iff.mp h) hb
  | some x => rfl
theorem last_join (a b : List Nat) (hb : b ≠ []) : (TL.joinL [58] [a, b]).getLast? = b.getLast? := by
  show (a ++ ([58] ++ b)).getLast? = _
  rw [← List.append_assoc, app_last hb]
theorem last_join3 (a b c : List Nat) (hc : c ≠ []) : (TL.joinL [58] [a, b, c]).getLast? = c.getLast? := by
  show (a ++ ([58] ++ (b ++ ([58] ++ c)))).getLast? = _
  rw [← List.append_assoc, ← List.append_assoc, ← List.append_assoc, app_last hc]
theorem quest_last {n k : Nat} (hk : k < 4) : (TL.joinL [58] (needN n k).ws).getLast? = some (48 + k) := by
  have h2 := small_ok k hk
  simp only [Bool.and_eq_true] at h2
  have e : TL.numL k = [48 + k] := of_decide_eq_true h2.2
  have ap : ∀ a : List Nat, (a ++ [48 + k]) ≠ [] ∧ (a ++ [48 + k]).getLast? = some (48 + k) := fun a => ⟨by simp, by simp⟩
  unfold needN
  rw [e]
  split
  · exact (last_join _ _ (ap _).1).trans (ap _).2
  · split
    · exact (last_join _ _ (ap _).1).trans (ap _).2
    · split
      · exact (last_join3 _ _ _ (ap _).1).trans (ap _).2
      · split
        · exact (last_join _ _ (ap _).1).trans (ap _).2
        · exact (last_join _ _ (ap _).1).trans (ap _).2
theorem outs_ok : ∀ j < 60, (((List.range (1 + j % 3)).map (outN j)).all (fun o => pathOk o && wokB o && decide (o.length ≤ 12)) && decide ((List.range (1 + j % 3)).map (outN j)).Nodup) = true := by decide +kernel
theorem rule_ok : ∀ m < 2, GK (key (ruleN m)) ∧ key (ruleN m) < 10 ^ 17 := by
  unfold GK
  decide +kernel
theorem rule_mod (m : Nat) : ruleN m = ruleN (m % 2) := by
  unfold ruleN
  rw [Nat.mod_mod]
theorem nodup_range {β : Type} {f : Nat → β} : ∀ n : Nat, (∀ i < n, ∀ j < n, f i = f j → i = j) → ((List.range n).map f).Nodup := fun n h =>
  List.pairwise_map.mpr ((List.nodup_range (n := n)).imp_of_mem fun ha hb hne z => hne (h _ (List.mem_range.mp ha) _ (List.mem_range.mp hb) z))
theorem sum_le {n b : Nat} {f : Nat → List Nat} (h : ∀ k < n, (f k).length ≤ b) : (((List.range n).map f).map (·.length)).sum ≤ n * b := by
  induction n with
  | zero => simp
  | succ n ih =>
    rw [List.range_succ, List.map_append, List.map_append, List.sum_append, Nat.succ_mul]
    have := ih fun k hk => h k (by omega)
    have := h n (by omega)
    show _ + ((f n).length + 0) ≤ _
    omega
theorem joinL_le (s : Nat) : ∀ (ps : List (List Nat)), (TL.joinL [s] ps).length ≤ (ps.map (·.length)).sum + ps.length
  | [] => Nat.le_refl _
  | [p] => by
    show p.length ≤ (p.length + 0) + 1
    omega
  | p :: q :: r => by
    have ih := joinL_le s (q :: r)
    show (p ++ ([s] ++ TL.joinL [s] (q :: r))).length ≤ _
    rw [List.length_append, List.length_append, List.map_cons, List.sum_cons, List.length_cons (a := p)]
    show p.length + (1 + _) ≤ _
    omega
theorem rec_good {ns : List Nat} {j : Nat} (hn : ∀ i, ns.getD i 0 < 1000) (hj : j < 60) : GRc (recN ns j) ∧ ((fmtRc (recN ns j)).length ≤ 600 ∧ ∀ c ∈ fmtRc (recN ns j), c < 128) := by
  have ho := outs_ok j hj
  rw [Bool.and_eq_true, List.all_eq_true, decide_eq_true_eq] at ho
  obtain ⟨ho, hnd⟩ := ho
  have ho' : ∀ o ∈ (recN ns j).outs, pathOk o = true ∧ wokB o = true ∧ o.length ≤ 12 := fun o h => by
    have := ho o h
    simp only [Bool.and_eq_true, decide_eq_true_eq] at this
    exact ⟨this.1.1, this.1.2, this.2⟩
  have hr := rule_ok (ns.getD 11 0 % 2) (Nat.mod_lt _ (by decide))
  rw [← rule_mod] at hr
  have h3 : 1 + j % 3 ≤ 3 := by omega
  have h5 : ns.getD 0 0 % 5 ≤ 4 := by omega
  have hks : ∀ k, k < ns.getD 0 0 % 5 → k < 4 := fun k hk => by omega
  have g : GRc (recN ns j) := by
    refine ⟨?_, ?_, hnd, fun o h => ?_, hr.1, ?_, ?_, fun d hd => ?_, ?_, fun n h => ?_⟩
    · intro z
      have := congrArg List.length z
      rw [show (recN ns j).outs = (List.range (1 + j % 3)).map (outN j) from rfl, List.length_map, List.length_range] at this
      simp at this
    · show ((List.range (1 + j % 3)).map (outN j)).length ≤ 3
      rw [List.length_map, List.length_range]
      exact h3
    · obtain ⟨h1, h2, _⟩ := ho' o h
      have := (wok_of h2).1
      exact ⟨h1, this.2.2.2, this.2.2.1⟩
    · show ((List.range (ns.getD 0 0 % 5)).map _).length ≤ 60
      rw [List.length_map, List.length_range]
      omega
    · show (((List.range (ns.getD 0 0 % 5)).map fun k => needN (ns.getD (1 + k) 0) k).map fun d => TL.joinL [58] d.ws).Nodup
      rw [List.map_map]
      refine nodup_range _ fun a ha b hb z => ?_
      have e1 := quest_last (n := ns.getD (1 + a) 0) (hks a ha)
      have e2 := quest_last (n := ns.getD (1 + b) 0) (hks b hb)
      have z' : TL.joinL [58] (needN (ns.getD (1 + a) 0) a).ws = TL.joinL [58] (needN (ns.getD (1 + b) 0) b).ws := z
      rw [z', e2] at e1
      have := Option.some.inj e1
      omega
    · obtain ⟨k, hk, rfl⟩ := List.mem_map.mp hd
      exact need_good (hn _) (hks k (List.mem_range.mp hk))
    · show ((List.range (1 + j % 3)).map _).length = ((List.range (1 + j % 3)).map (outN j)).length
      rw [List.length_map, List.length_map]
    · obtain ⟨k, hk, rfl⟩ := List.mem_map.mp h
      exact text_gk (by have := hn (7 + k); omega)
  refine ⟨g, ?_, ?_⟩
  · have l1 : (TL.joinL [44] (recN ns j).outs).length ≤ 39 := by
      have h1 := joinL_le 44 (recN ns j).outs
      have h2 : (((recN ns j).outs).map (·.length)).sum ≤ (1 + j % 3) * 12 := sum_le (n := 1 + j % 3) (b := 12) (f := outN j) fun k hk => (ho' (outN j k) (List.mem_map.mpr ⟨k, List.mem_range.mpr hk, rfl⟩)).2.2
      have h4 : ((recN ns j).outs).length = 1 + j % 3 := by
        show ((List.range (1 + j % 3)).map (outN j)).length = _
        rw [List.length_map, List.length_range]
      omega
    have l2 : (TL.numL (recN ns j).key).length ≤ 17 := TL.numL_len (by decide) hr.2
    have l3 : (fmtNds (recN ns j).needs).length ≤ 244 := by
      unfold fmtNds
      split
      · decide
      · have h1 := joinL_le 59 ((recN ns j).needs.map fmtNd)
        have e : (recN ns j).needs.map fmtNd = (List.range (ns.getD 0 0 % 5)).map fun k => fmtNd (needN (ns.getD (1 + k) 0) k) := List.map_map ..
        have h2 : (((recN ns j).needs.map fmtNd).map (·.length)).sum ≤ (ns.getD 0 0 % 5) * 60 := by
          rw [e]
          exact sum_le fun k hk => (need_size (hn _) (hks k hk)).1
        have h4 : ((recN ns j).needs.map fmtNd).length = ns.getD 0 0 % 5 := by rw [e, List.length_map, List.length_range]
        omega
    have l4 : (TL.joinL [44] ((recN ns j).res.map TL.numL)).length ≤ 54 := by
      have h1 := joinL_le 44 ((recN ns j).res.map TL.numL)
      have e : (recN ns j).res.map TL.numL = (List.range (1 + j % 3)).map fun k => TL.numL (key (textN (ns.getD (7 + k) 0))) := List.map_map ..
      have h2 : (((recN ns j).res.map TL.numL).map (·.length)).sum ≤ (1 + j % 3) * 17 := by
        rw [e]
        exact sum_le fun k hk => text_len (by have := hn (7 + k); omega)
      have h4 : ((recN ns j).res.map TL.numL).length = 1 + j % 3 := by rw [e, List.length_map, List.length_range]
      omega
    have h := joinL_le 32 (words (recN ns j))
    have e : ((words (recN ns j)).map (·.length)).sum = (TL.joinL [44] (recN ns j).outs).length + ((TL.numL (recN ns j).key).length + ((fmtNds (recN ns j).needs).length + ((TL.joinL [44] ((recN ns j).res.map TL.numL)).length + 0))) := rfl
    have e4 : (words (recN ns j)).length = 4 := rfl
    show (TL.joinL [32] (words (recN ns j))).length ≤ 600
    omega
  · refine join_lt (by decide) fun p hp => ?_
    simp only [words, List.mem_cons, List.not_mem_nil, or_false] at hp
    rcases hp with rfl | rfl | rfl | rfl
    · exact join_lt (by decide) fun o ho2 => (wok_of (ho' o ho2).2.1).2
    · exact num_128 _
    · unfold fmtNds
      split
      · decide
      · refine join_lt (by decide) fun p hp => ?_
        obtain ⟨d, hd, rfl⟩ := List.mem_map.mp hp
        obtain ⟨k, hk, rfl⟩ := List.mem_map.mp hd
        exact (need_size (hn _) (hks k (List.mem_range.mp hk))).2
    · refine join_lt (by decide) fun p hp => ?_
      obtain ⟨n, _, rfl⟩ := List.mem_map.mp hp
      exact num_128 n
end Kn.Rp

/-! ### len(set(xs)) of any texts -/
namespace Kn.Sets
open PySem PySem.Spec PyProof.Rows
/-- how many are in behind i turns -/
def Cnt (xs : List Str) (i m : Nat) : Prop := m ≤ i ∧ (m = i ↔ (xs.take i).Nodup)
theorem cnt_next {xs : List Str} {i m : Nat} {x : Str} (c : Cnt xs i m) (h : xs[i]? = some x) : Cnt xs (i + 1) (if seen xs i x = true then m else m + 1) := by
  obtain ⟨c1, c2⟩ := c
  have e : (xs.take (i + 1)).Nodup ↔ (xs.take i).Nodup ∧ seen xs i x = false := by
    rw [List.take_add_one, h, List.nodup_append]
    unfold seen
    rw [List.any_eq_false]
    constructor
    · rintro ⟨h1, _, h3⟩
      exact ⟨h1, fun y hy z => h3 y hy x (by simp) (by simpa using z)⟩
    · rintro ⟨h1, h2⟩
      refine ⟨h1, by simp, fun a ha b hb z => h2 a ha ?_⟩
      have : b = x := by simpa using hb
      rw [z, this]
      simp
  split
  · next hs =>
    refine ⟨by omega, ⟨fun z => by omega, fun z => ?_⟩⟩
    rw [e] at z
    rw [hs] at z
    exact absurd z.2 (by simp)
  · next hs =>
    refine ⟨by omega, ?_⟩
    rw [e, ← c2]
    constructor
    · intro z
      exact ⟨by omega, by simpa using hs⟩
    · intro z
      omega
section
variable {prog : Program} {w : World} {A : Around}
/-- one turn after another -/
theorem turnsG {I S : Addr} {fp wr : List Addr} {G : Array GenState → Array GenState → Prop} {n : Nat} {Pi : Nat → Value → Prop} {St : Nat → Shared → Prop} {R : Result → Shared → Prop} (W : WalksS prog w A.in1 I fp wr G n Pi St) (hS : S ∉ fp)
    {xs : List Str} (hn : xs.length = n) (few : n + 1 < scanBound) (at' : ∀ i v, Pi i v → ∃ x t, xs[i]? = some x ∧ v = .str x t) (d : Nat) :
    ∀ (i m : Nat) (s : Shared), i + d = n → St i s → s.heap.SetOf (PySem.strKind prog w) S (seen xs i) m → Cnt xs i m →
      (∀ s' m, Moved (S :: wr) G s s' → s'.heap.SetOf (PySem.strKind prog w) S (seen xs n) m → Cnt xs n m → R (.ok (.ret .none)) s') → codeAny (model prog w) A (.builtin "set.update.loop" ⟨[.ref S, .ref I], []⟩) R s := by
  have out : S ∉ wr := fun z => hS (W.sub _ z)
  have more : ∀ b ∈ wr, b ∈ S :: wr := fun b z => List.mem_cons_of_mem _ z
  have kept : ∀ {s s' : Shared} {f : Str → Bool} {m : Nat}, Moved wr G s s' → s.heap.SetOf (PySem.strKind prog w) S f m → s'.heap.SetOf (PySem.strKind prog w) S f m := fun hm ⟨o, es, ep, tb, ho, r⟩ => ⟨o, es, ep, tb, hm.heap S _ out ho, r⟩
  induction d with
  | zero =>
    intro i m s e st so cn k
    obtain rfl : i = n := e
    refine codeAny_builtin F.entry_set_update_loop ?_
    rw [Around.under_plainId F.plain_set_update_loop _]
    exact wpAny_bind (W.done s _ _ st fun s' hm => wpAny_pure (k s' m (hm.mono more) (kept hm so) cn))
  | succ d ih =>
    intro i m s e st so cn k
    have lt : i < n := by omega
    refine codeAny_builtin F.entry_set_update_loop ?_
    rw [Around.under_plainId F.plain_set_update_loop _]
    refine wpAny_bind (W.item i s _ _ lt st fun v s' hP st' hm => ?_)
    obtain ⟨x, t, hx, rfl⟩ := at' i v hP
    have so1 := kept hm so
    refine wpAny_bind (m := holding [Value.str x t] (setAdd S (.str x t))) (wpAny_holding ?_)
    unfold setAdd
    refine wpAny_holding (wpAny_bind ((PySem.strKind prog w).pyHash (k := x) (strKind_is _ _ _ _) ?_))
    refine wpAny_setAddHashed_of (knd := PySem.strKind prog w) (s := { s' with toks := s'.toks + 1 }) (strKind_is _ _ _ _) rfl so1 (by have := cn.1; omega) fun h' same so2 => ?_
    have so3 := SetOf_congr so2 (seen_next hx) rfl
    refine wpAny_pure ⟨plainId_quiet F.plain_set_update_loop _, ih (i + 1) _ _ (by omega) (W.frame _ s' _ _ st' (Nat.le_succ _) fun b hb o e => ?_) so3 (cnt_next cn hx) fun s2 m2 hm2 so4 cn2 => ?_⟩
    · rw [same.2 b fun z => hS (z ▸ hb)]
      exact e
    · refine k s2 m2 (Moved.trans W.gtrans ((hm.mono more).then_heap (Nat.le_succ _) fun b o hb e => ?_) hm2) so4 cn2
      rw [same.2 b fun z => hb (z ▸ List.mem_cons_self)]
      exact e
end

/-- the texts are in the set at the end of h; h' keeps what was in h -/
def FullG (prog : Program) (w : World) (h : Heap) (xs : List Str) (m : Nat) (h' : Heap) : Prop := h'.SetOf (PySem.strKind prog w) h.objs.size (seen xs xs.length) m ∧ Cnt xs xs.length m ∧ ∀ b o, b < h.objs.size → h.get? b = some o → h'.get? b = some o
section
variable {prog : Program} {w : World} {A : Around} {E : Value → Shared → Prop} {s : Shared}
theorem makeG {l : Addr} {items : Array Value} {xs : List Str} {Q : Value → Shared → Prop} (hh : A.handled = none) (hl : s.heap.IsList l items) (at' : ∀ (i : Nat) (v : Value), items[i]? = some v → ∃ (x : Str) (t : Tok), xs[i]? = some x ∧ v = .str x t) (hn : xs.length = items.size) (few : items.size + 1 < scanBound)
    (q : ∀ (m : Nat) (h' : Heap) (tk : Nat), FullG prog w s.heap xs m h' → Q (.ref s.heap.objs.size) { s with heap := h', toks := tk }) : wpAny (model prog w) A (call (.type "set") [.ref l]) Q E s := by
  have z1 := PySem.F.called_set.made
  have z2 := PySem.F.called_set.sub
  have z3 := PySem.F.called_set.notType
  have z4 := PySem.F.called_set.canCreate
  have z5 := PySem.F.typeCall_set_1 (.ref l)
  have ⟨_, _, z6⟩ := PySem.F.called_set.mro
  refine wpAny_call (codeAny_of_tree (show wpAny _ _ (callAny (.type "set") _) _ _ _ from wpAny_pure ⟨Code.quiet_builtin _ (by decide +kernel), codeAny_builtin PySem.F.entry_type_call ?_⟩))
  rw [Around.under_plain (weight_type_call_type "set" [.ref l] []) rfl]
  repeat (any_goals (first | assumption | wp_step))
  refine codeAny_mono (code_set_new_1 (.ref l) (E := E) (Q₁ := fun v s1 => ∃ led, v = .ref s.heap.objs.size ∧ s1 = { s with heap := s.heap.push (newS led) }) fun led => ⟨led, rfl, rfl⟩) fun r s1 hr => ?_
  match r, hr with
  | .error e, hr => exact hr
  | .ok (.ret v), hr =>
    obtain ⟨led, rfl, rfl⟩ := hr
    have new : (s.heap.push (newS led)).get? s.heap.objs.size = some (newS led) := Heap.get?_push_size _ rfl
    have isS : Shared.TypeIs { s with heap := s.heap.push (newS led) } (.ref s.heap.objs.size) "set" := ⟨_, new, rfl⟩
    have z7 := PySem.F.called_set.init.lookup
    have z8 := PySem.F.called_set.init.bind (.ref s.heap.objs.size)
    repeat (any_goals (first | assumption | wp_step))
    refine codeAny_mono (codeAny_call_builtin (R := wants (fun r s2 => r = .none ∧ ∃ m h' tk, s2 = { s with heap := h', toks := tk } ∧ FullG prog w s.heap xs m h') E) PySem.F.called_set.init.plain PySem.F.entry_set_init (check_set_init_1 isS ?_)) fun r2 s2 hr2 => ?_
    · obtain ⟨⟨oc, od, oda, osl⟩, ho, hcl, m, hda⟩ := hl
      cases (show oc = .type "list" from hcl)
      cases (show oda = .seq items m from hda)
      have ho2 : (s.heap.push (newS led)).get? l = some { cls := .type "list", dict := od, data := .seq items m, slots := osl } := Heap.get?_push_of_some _ ho
      have hl2 : (s.heap.push (newS led)).IsList l items := ⟨_, ho2, rfl, m, rfl⟩
      have y1 := PySem.F.sub_list_set
      have y2 := PySem.F.sub_list_frozenset
      have y3 : (Value.type "list" == Value.type "dict") = false := by decide
      unfold Builtin.«set.__init__» noKeywords Builtin.Frozenset.updateFrom
      generalize hp : pyIter = pI
      wp_walk
      subst hp
      refine wpAny_pyIter_list hl2 (wpAny_bind (wpAny_runValue ?_))
      have ll : l < s.heap.objs.size := Heap.lt_size ho
      have sz : (s.heap.push (newS led)).objs.size = s.heap.objs.size + 1 := Heap.size_push ..
      have n1 : l ≠ (s.heap.push (newS led)).objs.size := by rw [sz]; exact Nat.ne_of_lt (Nat.lt_succ_of_lt ll)
      have n2 : s.heap.objs.size ∉ [(s.heap.push (newS led)).objs.size, l] := by simp only [List.mem_cons, List.not_mem_nil, or_false, sz, not_or]; exact ⟨Nat.ne_of_lt (Nat.lt_succ_self _), Nat.ne_of_gt ll⟩
      have so : ((s.heap.push (newS led)).push (itS l)).SetOf (PySem.strKind prog w) s.heap.objs.size (seen xs 0) 0 := SetOf_congr ((setObjOf_fresh (knd := PySem.strKind prog w) led).setOf (Heap.get?_push_of_some _ new) (by unfold scanBound; omega)) (fun _ => rfl) rfl
      refine turnsG ((Walks.list (show A.in1.in1.in1.handled = none by simp [hh]) _ l n1 items).toS) n2 hn (by omega) at' items.size 0 0 _ (by omega) ⟨⟨_, Heap.get?_push_size _ rfl, rfl, rfl⟩, hl2.push _⟩ so ⟨Nat.le_refl _, by simp⟩ fun s' m hm so' cn => ?_
      obtain ⟨h', g', d', tk', os'⟩ := s'
      cases (show g' = s.gens from hm.gens)
      cases (show d' = s.drawn from hm.drawn)
      cases (show os' = s.os from hm.os)
      refine wpAny_pure (wpAny_pure ⟨rfl, m, h', tk', rfl, by rw [hn]; exact so', by rw [hn]; exact cn, fun b o hb e => ?_⟩)
      refine hm.heap b o ?_ (Heap.get?_push_of_some _ (Heap.get?_push_of_some _ e))
      simp only [List.mem_cons, List.not_mem_nil, or_false, sz, not_or]
      exact ⟨Nat.ne_of_lt hb, Nat.ne_of_lt (Nat.lt_succ_of_lt hb)⟩
    · match r2, hr2 with
      | .error e, hr2 => exact hr2
      | .ok (.ret v), hr2 =>
        obtain ⟨rfl, m, h', tk, rfl, f⟩ := hr2
        repeat (any_goals (first | assumption | wp_step))
        exact q _ _ _ f
end
end Kn.Sets
namespace Kn
open PySem PySem.Spec PyProof.Rows L2 Evl SX
section
variable {X : Cx}
/-- len(set(xs)), xs a list of texts -/
def tLenSetG (K : PySem.W.Frag) (ta : TE) : TE := fun σ H Q => ta σ H fun x H1 => ∃ (l : Addr) (xs : List Str), x = .ref l ∧ SqL K H1 l (xs.map V.str) ∧ xs.length ≤ 4000 ∧ ∀ m, Sets.Cnt xs xs.length m → Q (.int m) H1
theorem pe_lenSetG {a : Expr} {ta : TE} {p p2 q pos : Pos} (hc : X.calm = true) (hg : Gl X "len") (hm : X.mg "len" = none) (hg2 : Gl X "set") (hm2 : X.mg "set" = none) (ha : PE X a ta)
    (na : starEach [a] X.env = (false, eval a X.env) :: starEach [] X.env := by rfl) : PE X (.Call (.Name "len" p) [.Call (.Name "set" p2) [a] [] q] [] pos) (tLenSetG X.K ta) := ⟨fun pins s σ H Q I h => by
  refine Call_ (ld_blt I hg hm boot_len (callWith_builtin1 (args_cons ?_ rfl) rfl rfl))
  refine Call_ (ld_blt I hg2 hm2 boot_set (callWith_type1 (args_cons (thn (ha.run pins s σ H _ I h) fun v s1 z => args_nil ?_) na) na rfl))
  obtain ⟨x, H1, I1, r1, l, xs, rfl, hq, few, q1⟩ := z
  cases r1
  obtain ⟨us, r, pl, _⟩ := I1.list hq
  obtain ⟨hl, at'⟩ := texts_at r
  have hsz : xs.length = us.toArray.size := by rw [List.size_toArray]; exact hl
  refine Sets.makeG (I1.ok.hd hc) pl.isList (fun i v e => at' i v (by simpa using e)) hsz (by unfold scanBound; omega) fun m h' tk f => args_nil ?_
  obtain ⟨⟨o, es, ep, t, ho, hex, hd, _, _, _, hf, hn⟩, cn, hk⟩ := f
  have I2 : Inv X pins σ H1 { s1 with heap := h', toks := tk } := I1.kept fun b o e => hk b o (Heap.lt_size e) e
  exact call_len_set ho hex hd hf (by rw [hn]; have := cn.1; omega) ⟨.int m, H1, I2.tok _, ⟨_, by rw [hn]⟩, q1 m cn⟩⟩

theorem ev_setEq {K : PySem.W.Frag} {σ : L2.St} {H : Hp} {ta tb : TE} {p : Addr} {ls : List (List Nat)} (h : Ev ta σ H (.ref p)) (hp : SqL K H p (ls.map fun l => V.str (S l))) (hl : ls.length ≤ 4000) (hb : Ev tb σ H (.int (ls.length : Int))) : Ev (tOp rEq (tLenSetG K ta) tb) σ H (.bl (decide ls.Nodup)) := fun H1 e Q q =>
  h H1 e _ fun H2 e2 => ⟨p, ls.map S, rfl, by rw [List.map_map]; exact ex_l (e.trans e2) hp, by rw [List.length_map]; exact hl, fun m cn => hb H2 (e.trans e2) _ fun H3 e3 => by
    obtain ⟨c1, c2⟩ := cn
    rw [List.take_length, List.length_map] at c2
    have nd : (ls.map S).Nodup ↔ ls.Nodup := ⟨fun h => (List.pairwise_map.mp h).imp fun a b => a (by rw [b]), fun h => List.pairwise_map.mpr (h.imp fun a b => a (S_inj b))⟩
    rw [nd] at c2
    have e : (.bl (decide ls.Nodup) : V) = .bl (decide ((m : Int) = (ls.length : Int))) := by
      congr 1
      rw [decide_eq_decide, ← c2]
      omega
    refine rv_eqI (H := H3) H3 (Ex.refl _) Q fun H4 e4 => ?_
    rw [← e]
    exact q H4 ((e2.trans e3).trans e4)⟩
end
end Kn

/-! Kq: sorted(set(xs)) of texts. -/
namespace Kn.SetsT
open PySem PySem.Spec PyProof.Rows L2 PySem.Froz
section
variable {P : Program} {w : World} {A : Around} {E : Value → Shared → Prop} {s : Shared}
/-- a set of the texts l, each once, with what its walk wants -/
structure TxR (P : Program) (w : World) (h : Heap) (a : Addr) (l : List Str) : Prop where
  ex : ∃ (es : Array (Int × Value)) (ep : Nat) (t : SetTable), h.get? a = some (sObj "set" (es, ep, t)) ∧ TxOk P w (es, ep, t) l ∧ Ris t.place.toList ∧ (w.params.followText "set-order" = true ∨ t.led = true) ∧ (es.toList.map fun e => PyProof.Rows.strOf e.2).Perm l
theorem TxR.at {h h' : Heap} {a : Addr} {l : List Str} (R : TxR P w h a l) (k : ∀ o, h.get? a = some o → h'.get? a = some o) : TxR P w h' a l := by
  obtain ⟨es, ep, t, h1, h2⟩ := R.ex
  exact ⟨es, ep, t, k _ h1, h2⟩
theorem tail_facts {ep : Nat} {es1 : Array (Int × Value)} {t2 : SetTable} {wd : Bool} (r : Ris t2.place.toList) : Ris (tailTx ep es1 t2 wd).2.2.place.toList ∧ (tailTx ep es1 t2 wd).2.2.led = t2.led ∧ (tailTx ep es1 t2 wd).1.toList.Perm es1.toList := by
  unfold tailTx
  split
  · exact ⟨relayAll_ris t2 es1 _, relayAll_led t2 es1 _, relayAll_perm t2 es1 _⟩
  · exact ⟨r, rfl, .rfl⟩
theorem add_facts {h : Int} {v : Value} {D : SD} (r : Ris D.2.2.place.toList) : Ris (addTx h v D).2.2.place.toList ∧ (addTx h v D).2.2.led = D.2.2.led ∧ (addTx h v D).1.toList.Perm (D.1.push (h, v)).toList := by
  obtain ⟨es, ep, t⟩ := D
  have r1 := layNew_ris t es h v r
  have l1 := layNew_led t es h v
  have p1 := layNew_perm t es h v
  have z : Ris (if (layNew t es h v).2.1.plain = true then { (layNew t es h v).2.1 with plain := false } else (layNew t es h v).2.1).place.toList ∧ (if (layNew t es h v).2.1.plain = true then { (layNew t es h v).2.1 with plain := false } else (layNew t es h v).2.1).led = t.led := by
    split
    · exact ⟨r1, l1⟩
    · exact ⟨r1, l1⟩
  obtain ⟨a1, a2, a3⟩ := tail_facts (ep := ep) (es1 := (layNew t es h v).1) (wd := (layNew t es h v).2.2.1) z.1
  exact ⟨a1, a2.trans z.2, a3.trans p1⟩
theorem addT {a : Addr} {l : List Str} {k : Str} {u : Tok} {Q : Bool → Shared → Prop} (R : TxR P w s.heap a l) (room : l.length + 1 < scanBound)
    (q : ∀ h' b, Heap.SameBut a s.heap h' → TxR P w h' a (if k ∈ l then l else k :: l) → Q b { s with heap := h' }) : wpAny (model P w) A (setAddHashed a (.str k u) (hashStr w k)) Q E s := by
  obtain ⟨es, ep, t, ho, F, r, hl, pm⟩ := R.ex
  by_cases hk : k ∈ l
  · have q1 := q s.heap false (Heap.SameBut.refl a s.heap) (by rw [if_pos hk]; exact R)
    have hd : (sObj "set" (es, ep, t)).data = .set es ep t := rfl
    have hf : t.fits es.size = true := F.fit
    have hel : ElemsOf (PySem.strKind P w) es.toList := F.el
    have hb0 : es.size < scanBound := by have := F.sz; have z : es.size = l.length := this; omega
    have hkey : (PySem.strKind P w).is k (.str k u) = true := is_str k u
    unfold setAddHashed setAddHashedIn
    refine wpAny_holding (wpAny_bind (wpAny_setState_of ho hd hf ?_))
    dsimp only
    rw [byScan_of rfl hb0 hel]
    simp only [↓reduceIte]
    unfold setAddByScan
    refine wpAny_bind ?_
    refine wpAny_bind (wpAny_rule ?_)
    refine wpAny_bind (wpAny_setScan_of (knd := PySem.strKind P w) (k := k) hkey ho hd hf hel ?_)
    cases hfi : List.findIdx? (fun e => (PySem.strKind P w).is k e.2) es.toList with
    | some j =>
      dsimp only
      exact wpAny_pure (wpAny_pure q1)
    | none =>
      obtain ⟨e, he, hi⟩ := (F.mem k).mp hk
      have c := List.findIdx?_eq_none_iff.mp hfi e he
      rw [hi] at c
      cases c
  · obtain ⟨f1, f2, f3⟩ := add_facts (h := hashStr w k) (v := .str k u) (D := (es, ep, t)) r
    refine add_x ho F hk room (q _ true (Heap.SameBut.update ..) ?_)
    rw [if_neg hk]
    refine ⟨_, _, _, get_upd _ ho rfl, add_ok u F, f1, hl.imp id fun z => f2.trans z, ?_⟩
    refine (f3.map _).trans ?_
    rw [Array.toList_push, List.map_append]
    refine (List.perm_append_comm).trans ?_
    exact List.Perm.cons k pm
/-- what the set has behind i turns -/
def Got (xs : List Str) (i : Nat) (l : List Str) : Prop := l.Nodup ∧ (∀ z, z ∈ l ↔ z ∈ xs.take i) ∧ l.length ≤ i
theorem got_next {xs : List Str} {i : Nat} {l : List Str} {x : Str} (g : Got xs i l) (h : xs[i]? = some x) : Got xs (i + 1) (if x ∈ l then l else x :: l) := by
  obtain ⟨nd, m, le⟩ := g
  have e : xs.take (i + 1) = xs.take i ++ [x] := by rw [List.take_succ, h]; rfl
  split
  · next hx =>
    refine ⟨nd, fun z => ?_, by omega⟩
    rw [e, List.mem_append, ← m z, List.mem_singleton]
    exact ⟨.inl, fun y => y.elim id fun y => y ▸ hx⟩
  · next hx =>
    refine ⟨List.nodup_cons.mpr ⟨hx, nd⟩, fun z => ?_, by rw [List.length_cons]; omega⟩
    rw [e, List.mem_append, ← m z, List.mem_singleton, List.mem_cons]
    exact Or.comm
end
section
variable {prog : Program} {w : World} {A : Around}
theorem turnsT {I S : Addr} {fp wr : List Addr} {G : Array GenState → Array GenState → Prop} {n : Nat} {Pi : Nat → Value → Prop} {St : Nat → Shared → Prop} {R : Result → Shared → Prop} (W : WalksS prog w A.in1 I fp wr G n Pi St) (hS : S ∉ fp)
    {xs : List Str} (hn : xs.length = n) (few : n + 1 < scanBound) (at' : ∀ i v, Pi i v → ∃ x t, xs[i]? = some x ∧ v = .str x t) (d : Nat) :
    ∀ (i : Nat) (l : List Str) (s : Shared), i + d = n → St i s → TxR prog w s.heap S l → Got xs i l →
      (∀ s' l', Moved (S :: wr) G s s' → TxR prog w s'.heap S l' → Got xs n l' → R (.ok (.ret .none)) s') → codeAny (model prog w) A (.builtin "set.update.loop" ⟨[.ref S, .ref I], []⟩) R s := by
  have out : S ∉ wr := fun z => hS (W.sub _ z)
  have more : ∀ b ∈ wr, b ∈ S :: wr := fun b z => List.mem_cons_of_mem _ z
  have kept : ∀ {s s' : Shared} {l : List Str}, Moved wr G s s' → TxR prog w s.heap S l → TxR prog w s'.heap S l := fun hm r => r.at fun o e => hm.heap S _ out e
  induction d with
  | zero =>
    intro i l s e st so gt k
    obtain rfl : i = n := e
    refine codeAny_builtin F.entry_set_update_loop ?_
    rw [Around.under_plainId F.plain_set_update_loop _]
    exact wpAny_bind (W.done s _ _ st fun s' hm => wpAny_pure (k s' l (hm.mono more) (kept hm so) gt))
  | succ d ih =>
    intro i l s e st so gt k
    have lt : i < n := by omega
    refine codeAny_builtin F.entry_set_update_loop ?_
    rw [Around.under_plainId F.plain_set_update_loop _]
    refine wpAny_bind (W.item i s _ _ lt st fun v s' hP st' hm => ?_)
    obtain ⟨x, t, hx, rfl⟩ := at' i v hP
    have so1 := kept hm so
    refine wpAny_bind (m := holding [Value.str x t] (setAdd S (.str x t))) (wpAny_holding ?_)
    unfold setAdd
    refine wpAny_holding (wpAny_bind ((PySem.strKind prog w).pyHash (k := x) (strKind_is _ _ _ _) ?_))
    refine addT (s := { s' with toks := s'.toks + 1 }) so1 (by have := gt.2.2; omega) fun h' b same so2 => ?_
    refine wpAny_pure ⟨plainId_quiet F.plain_set_update_loop _, ih (i + 1) _ _ (by omega) (W.frame _ s' _ _ st' (Nat.le_succ _) fun b hb o e => ?_) so2 (got_next gt hx) fun s2 l2 hm2 so4 gt2 => ?_⟩
    · rw [same.2 b fun z => hS (z ▸ hb)]
      exact e
    · refine k s2 l2 (Moved.trans W.gtrans ((hm.mono more).then_heap (Nat.le_succ _) fun b o hb e => ?_) hm2) so4 gt2
      rw [same.2 b fun z => hb (z ▸ List.mem_cons_self)]
      exact e
end
section
variable {P : Program} {prog : Program} {w : World} {A : Around} {E : Value → Shared → Prop} {s : Shared}
theorem new_led (a : Value) {Q₁ : Value → Shared → Prop} (h : Q₁ (.ref s.heap.objs.size) { s with heap := s.heap.push (Kn.Sets.newS (!w.params.followText "set-order")) }) :
    codeAny (model prog w) A (.call (.builtin "set.__new__") ⟨[.type "set", a], []⟩) (wants Q₁ E) s := by
  apply codeAny_of_tree
  change wpAny _ A.in1 (do checkBuiltinCall "set.__new__" ⟨[.type "set", a], []⟩; again (.builtin "set.__new__" ⟨[.type "set", a], []⟩)) _ _ s
  refine wpAny_bind (wpAny_of_eq (PySem.F.newCall_set_1 a) (wpAny_pure ⟨plainId_quiet PySem.F.plain_set_new _, codeAny_builtin PySem.F.entry_set_new ?_⟩))
  rw [Around.under_plainId PySem.F.plain_set_new _]
  unfold Builtin.«set.__new__» Builtin.Frozenset.newClass
  have isub := sub_set_self
  obtain ⟨hp, g, d, tk, os⟩ := s
  dsimp only
  wp_walk
  refine wpAny_askSetting (wpAny_pure ?_)
  dsimp only
  simp only [newObj]
  refine wpAny_bind (wpAny_alloc (wpAny_pure ?_))
  exact wpAny_pure h
def FullT (prog : Program) (w : World) (h : Heap) (xs : List Str) (l : List Str) (h' : Heap) : Prop := TxR prog w h' h.objs.size l ∧ Got xs xs.length l ∧ ∀ b o, b < h.objs.size → h.get? b = some o → h'.get? b = some o
theorem makeT {l : Addr} {items : Array Value} {xs : List Str} {Q : Value → Shared → Prop} (hh : A.handled = none) (hl : s.heap.IsList l items) (at' : ∀ (i : Nat) (v : Value), items[i]? = some v → ∃ (x : Str) (t : Tok), xs[i]? = some x ∧ v = .str x t) (hn : xs.length = items.size) (few : items.size + 1 < scanBound)
    (q : ∀ (ys : List Str) (h' : Heap) (tk : Nat), FullT prog w s.heap xs ys h' → Q (.ref s.heap.objs.size) { s with heap := h', toks := tk }) : wpAny (model prog w) A (call (.type "set") [.ref l]) Q E s := by
  have z1 := PySem.F.called_set.made
  have z2 := PySem.F.called_set.sub
  have z3 := PySem.F.called_set.notType
  have z4 := PySem.F.called_set.canCreate
  have z5 := PySem.F.typeCall_set_1 (.ref l)
  have ⟨_, _, z6⟩ := PySem.F.called_set.mro
  refine wpAny_call (codeAny_of_tree (show wpAny _ _ (callAny (.type "set") _) _ _ _ from wpAny_pure ⟨Code.quiet_builtin _ (by decide +kernel), codeAny_builtin PySem.F.entry_type_call ?_⟩))
  rw [Around.under_plain (weight_type_call_type "set" [.ref l] []) rfl]
  repeat (any_goals (first | assumption | wp_step))
  refine codeAny_mono (new_led (.ref l) (E := E) (Q₁ := fun v s1 => v = .ref s.heap.objs.size ∧ s1 = { s with heap := s.heap.push (Kn.Sets.newS (!w.params.followText "set-order")) }) ⟨rfl, rfl⟩) fun r s1 hr => ?_
  generalize hled : (!w.params.followText "set-order") = led at hr
  match r, hr with
  | .error e, hr => exact hr
  | .ok (.ret v), hr =>
    obtain ⟨rfl, rfl⟩ := hr
    have new : (s.heap.push (Kn.Sets.newS led)).get? s.heap.objs.size = some (Kn.Sets.newS led) := Heap.get?_push_size _ rfl
    have isS : Shared.TypeIs { s with heap := s.heap.push (Kn.Sets.newS led) } (.ref s.heap.objs.size) "set" := ⟨_, new, rfl⟩
    have z7 := PySem.F.called_set.init.lookup
    have z8 := PySem.F.called_set.init.bind (.ref s.heap.objs.size)
    repeat (any_goals (first | assumption | wp_step))
    refine codeAny_mono (codeAny_call_builtin (R := wants (fun r s2 => r = .none ∧ ∃ ys h' tk, s2 = { s with heap := h', toks := tk } ∧ FullT prog w s.heap xs ys h') E) PySem.F.called_set.init.plain PySem.F.entry_set_init (check_set_init_1 isS ?_)) fun r2 s2 hr2 => ?_
    · obtain ⟨⟨oc, od, oda, osl⟩, ho, hcl, m, hda⟩ := hl
      cases (show oc = .type "list" from hcl)
      cases (show oda = .seq items m from hda)
      have ho2 : (s.heap.push (Kn.Sets.newS led)).get? l = some { cls := .type "list", dict := od, data := .seq items m, slots := osl } := Heap.get?_push_of_some _ ho
      have hl2 : (s.heap.push (Kn.Sets.newS led)).IsList l items := ⟨_, ho2, rfl, m, rfl⟩
      have y1 := PySem.F.sub_list_set
      have y2 := PySem.F.sub_list_frozenset
      have y3 : (Value.type "list" == Value.type "dict") = false := by decide
      unfold Builtin.«set.__init__» noKeywords Builtin.Frozenset.updateFrom
      generalize hp : pyIter = pI
      wp_walk
      subst hp
      refine wpAny_pyIter_list hl2 (wpAny_bind (wpAny_runValue ?_))
      have ll : l < s.heap.objs.size := Heap.lt_size ho
      have sz : (s.heap.push (Kn.Sets.newS led)).objs.size = s.heap.objs.size + 1 := Heap.size_push ..
      have n1 : l ≠ (s.heap.push (Kn.Sets.newS led)).objs.size := by rw [sz]; exact Nat.ne_of_lt (Nat.lt_succ_of_lt ll)
      have n2 : s.heap.objs.size ∉ [(s.heap.push (Kn.Sets.newS led)).objs.size, l] := by simp only [List.mem_cons, List.not_mem_nil, or_false, sz, not_or]; exact ⟨Nat.ne_of_lt (Nat.lt_succ_self _), Nat.ne_of_gt ll⟩
      have so : TxR prog w ((s.heap.push (Kn.Sets.newS led)).push (Kn.Sets.itS l)) s.heap.objs.size [] := ⟨#[], 0, _, Heap.get?_push_of_some _ new, TxOk.nil (by rfl), List.Pairwise.nil, by
        show _ ∨ led = true
        rw [← hled]
        cases w.params.followText "set-order"
        · exact .inr rfl
        · exact .inl rfl, .nil⟩
      refine turnsT ((Walks.list (show A.in1.in1.in1.handled = none by simp [hh]) _ l n1 items).toS) n2 hn (by omega) at' items.size 0 [] _ (by omega) ⟨⟨_, Heap.get?_push_size _ rfl, rfl, rfl⟩, hl2.push _⟩ so ⟨List.nodup_nil, fun z => by simp, Nat.le_refl 0⟩ fun s' ys hm so' gt => ?_
      obtain ⟨h', g', d', tk', os'⟩ := s'
      cases (show g' = s.gens from hm.gens)
      cases (show d' = s.drawn from hm.drawn)
      cases (show os' = s.os from hm.os)
      refine wpAny_pure (wpAny_pure ⟨rfl, ys, h', tk', rfl, so', by rw [hn]; exact gt, fun b o hb e => ?_⟩)
      refine hm.heap b o ?_ (Heap.get?_push_of_some _ (Heap.get?_push_of_some _ e))
      simp only [List.mem_cons, List.not_mem_nil, or_false, sz, not_or]
      exact ⟨Nat.ne_of_lt hb, Nat.ne_of_lt (Nat.lt_succ_of_lt hb)⟩
    · match r2, hr2 with
      | .error e, hr2 => exact hr2
      | .ok (.ret v), hr2 =>
        obtain ⟨rfl, ys, h', tk, rfl, f⟩ := hr2
        repeat (any_goals (first | assumption | wp_step))
        exact q _ _ _ f
/-- sorted of such a set -/
theorem sortedT {a : Addr} {l : List Str} {Q : Value → Shared → Prop} (R : TxR prog w s.heap a l) (hh : A.handled = none) (h64 : l.length < 64)
    (q : ∀ s' p (out : Array Value) (c : Nat) (ss : List Str), (∀ b o, s.heap.get? b = some o → s'.heap.get? b = some o) → s'.gens = s.gens → s'.os = s.os → s.heap.objs.size ≤ p → s'.heap.get? p = some (seqObj "list" out c) → StrsAre out.toList ss → ss.Perm l → sortedS ss = true → Q (.ref p) s') :
    wpAny (model prog w) A (call (.builtin "sorted") [.ref a]) Q E s := by
  obtain ⟨es, ep, t, ho, F, r, hl, pm⟩ := R.ex
  have hsz : es.size = l.length := F.sz
  refine Calls.call_function_entry kind_sorted plain_sorted entry_sorted (args_sorted1 _) ?_
  unfold Builtin.«sorted»
  refine wpAny_bind (m := checkCount "sorted" 1 1 _) (wpAny_pure ?_)
  refine wpAny_bind (collect_set (A := A.in1) hh ⟨_, ho, rfl, rfl⟩ F.fit (by show es.size < scanBound; unfold scanBound; omega) r hl fun s1 vs k1 hz g1 o1 pv => ?_)
  have hvl : vs.length = l.length := by rw [pv.length_eq, List.length_map, Array.length_toList]; exact hsz
  have hS : StrsAre vs (vs.map PyProof.Rows.strOf) := strsAre_map vs fun v hv => by
    obtain ⟨e, he, rfl⟩ := List.mem_map.mp (pv.mem_iff.mp hv)
    obtain ⟨⟨k, hk, _⟩, _⟩ := F.el e he
    obtain ⟨tk, hk⟩ := Value.isStrOf_shape hk
    exact ⟨k, tk, hk⟩
  have pk : (vs.map PyProof.Rows.strOf).Perm l := by
    have z := pv.map PyProof.Rows.strOf
    rw [List.map_map] at z
    exact z.trans pm
  refine wpAny_bind (wpAny_newList ?_ (by rw [hvl, sizeLine_eq]; omega))
  have hoL : (s1.heap.push (seqObj "list" vs.toArray 0)).get? s1.heap.objs.size = some (seqObj "list" vs.toArray 0) := Heap.get?_push_size _ rfl
  refine wpAny_bind (wpAny_holding (wpAny_call_entry slot_list_sort ⟨_, hoL, rfl⟩ entry_list_sort (list_sort_treeK strKind_oneLt hoL hS.keysOf (fun v₁ v₂ rest e => keyKind_strs (by rw [← e]; exact hS)) (by rw [hvl]; exact h64) fun st' a1 a2 => ⟨_, rfl, ?_⟩) (args_list_sort _)))
  obtain ⟨ss, b1, b2, b3⟩ := sorted_out_str hS a1 a2
  obtain ⟨c, hc⟩ := sortedHeap_at (vs := vs) (out := (arrOf st').map (·.2)) hoL
  refine wpAny_pure ⟨_, rfl, q _ s1.heap.objs.size _ c ss (fun b u e => ?_) g1 o1 hz hc b1 (b2.trans pk) b3⟩
  have lt := Heap.lt_size (k1 b u e)
  show (sortedHeap (s1.heap.push (seqObj "list" vs.toArray 0)) s1.heap.objs.size vs _).get? b = some u
  rw [sortedHeap_old (Nat.ne_of_lt lt) (by rw [size_push']; exact Nat.lt_succ_of_lt lt)]
  exact Heap.get?_push_of_some _ (k1 b u e)
end
end Kn.SetsT
namespace Kn
open PySem PySem.Spec PyProof.Rows L2 Evl SX
section
variable {X : Cx}
/-- sorted(set(xs)), xs a list of fewer than 64 texts -/
def tSortSetT (K : PySem.W.Frag) (ta : TE) : TE := fun σ H Q => ta σ H fun x H1 => ∃ (l : Addr) (xs : List Str), x = .ref l ∧ SqL K H1 l (xs.map V.str) ∧ xs.length < 64 ∧
  ∀ (ys : List Str) (p : Addr), ys.Nodup → (∀ z, z ∈ ys ↔ z ∈ xs) → ys.length ≤ xs.length → sortedS ys = true → H1 p = none → Q (.ref p) (L2.upd H1 p (.lst (ys.map V.str)))
theorem pe_sortSetT {a : Expr} {ta : TE} {p p2 q pos : Pos} (hc : X.calm = true) (hg : Gl X "sorted") (hm : X.mg "sorted" = none) (hg2 : Gl X "set") (hm2 : X.mg "set" = none) (ha : PE X a ta)
    (na : starEach [a] X.env = (false, eval a X.env) :: starEach [] X.env := by rfl) : PE X (.Call (.Name "sorted" p) [.Call (.Name "set" p2) [a] [] q] [] pos) (tSortSetT X.K ta) := ⟨fun pins s σ H Q I h => by
  refine Call_ (ld_blt I hg hm boot_sorted (callWith_builtin1 (args_cons ?_ rfl) rfl rfl))
  refine Call_ (ld_blt I hg2 hm2 boot_set (callWith_type1 (args_cons (thn (ha.run pins s σ H _ I h) fun v s1 z => args_nil ?_) na) na rfl))
  obtain ⟨x, H1, I1, r1, l, xs, rfl, hq, few, q1⟩ := z
  cases r1
  obtain ⟨us, r, pl, _⟩ := I1.list hq
  obtain ⟨hl, at'⟩ := texts_at r
  have hsz : xs.length = us.toArray.size := by rw [List.size_toArray]; exact hl
  refine SetsT.makeT (I1.ok.hd hc) pl.isList (fun i v e => at' i v (by simpa using e)) hsz (by unfold scanBound; omega) fun ls h' tk f => args_nil ?_
  obtain ⟨R, ⟨nd, m, le⟩, hk⟩ := f
  have I2 : Inv X pins σ H1 { s1 with heap := h', toks := tk } := I1.kept fun b o e => hk b o (Heap.lt_size e) e
  have R2 : SetsT.TxR X.prog X.w ({ s1 with heap := h', toks := tk } : Shared).heap s1.heap.objs.size ls := R
  generalize ({ s1 with heap := h', toks := tk } : Shared) = s2 at I2 R2 ⊢
  refine SetsT.sortedT R2 (I2.ok.hd hc) (by omega) fun s' p out c ss k g o hp hget hS pm hs => ?_
  have hlen : (ss.map V.str).length ≤ sizeLine := by rw [List.length_map, pm.length_eq, sizeLine_eq]; omega
  have hn : H1 p = none := I2.hok.fresh hp
  have J : Inv X pins σ (L2.upd H1 p (.lst (ss.map V.str))) { s2 with heap := s'.heap, gens := s'.gens, drawn := s'.drawn, toks := s'.toks } :=
    I2.call (ch := []) (Un.laid k hp hn) (I2.hok.laid k hp ⟨hlen, out.toList, c, vals_of_strs hS, hget⟩) (by rw [g]; exact I2.bare) (fun _ z => nomatch z)
  have e : s' = { s2 with heap := s'.heap, gens := s'.gens, drawn := s'.drawn, toks := s'.toks } := by
    cases s'
    cases s2
    cases o
    rfl
  rw [e]
  exact ⟨.ref p, _, J, rfl, q1 ss p (pm.nodup_iff.mpr nd) (fun z => by rw [pm.mem_iff, m z, List.take_length]) (by rw [pm.length_eq]; exact le) hs hn⟩⟩
end
end Kn

/-! Kg: dicts with text keys that may be locked, sorted texts, pop, dict comprehensions, graphs. -/
namespace Kn
open PySem PySem.Spec PyProof.Rows L2 Evl SX
/-! ### sorted texts -/
theorem pw_rising : ∀ (r : List Str) (x : Str), List.Pairwise leS (x :: r) → risingS x r = true
  | [], _, _ => rfl
  | y :: r, x, h => by
    obtain ⟨h1, h2⟩ := List.pairwise_cons.mp h
    show (!ltCps y.cps.toList x.cps.toList && risingS y r) = true
    rw [pw_rising r y h2, Bool.and_true, PyProof.Rows.ltCps_eq]
    have hle : x.cps.toList ≤ y.cps.toList := h1 y List.mem_cons_self
    rw [Bool.not_eq_true', decide_eq_false_iff_not]
    exact fun z => hle z
theorem pw_sorted {l : List Str} (h : List.Pairwise leS l) : sortedS l = true := by
  cases l with
  | nil => rfl
  | cons x r => exact pw_rising r x h
/-- a rising list without repetitions of just these texts -/
structure Srt (ys : List Str) (p : Str → Prop) : Prop where
  s : sortedS ys = true
  n : ys.Nodup
  m : ∀ x, x ∈ ys ↔ p x
theorem nodup_perm {α : Type} [DecidableEq α] {l m : List α} (h1 : l.Nodup) (h2 : m.Nodup) (h : ∀ x, x ∈ l ↔ x ∈ m) : l.Perm m :=
  (List.perm_ext_iff_of_nodup h1 h2).mpr h
theorem Srt.uniq {ys zs : List Str} {p q : Str → Prop} (a : Srt ys p) (b : Srt zs q) (h : ∀ x, p x ↔ q x) : ys = zs :=
  sorted_uniq a.s b.s (nodup_perm a.n b.n fun x => ((a.m x).trans (h x)).trans (b.m x).symm)
theorem Srt.filter {ys : List Str} {p : Str → Prop} (a : Srt ys p) (f : Str → Bool) : Srt (ys.filter f) (fun x => p x ∧ f x = true) :=
  ⟨pw_sorted ((sorted_pw a.s).sublist List.filter_sublist), a.n.sublist List.filter_sublist, fun x => by rw [List.mem_filter, a.m x]⟩
theorem Srt.of {ks ys : List Str} {p : Str → Prop} (hn : ks.Nodup) (hm : ∀ x, x ∈ ks ↔ p x) (h : ys.Perm ks) (hs : sortedS ys = true) : Srt ys p :=
  ⟨hs, h.nodup_iff.mpr hn, fun x => h.mem_iff.trans (hm x)⟩
theorem leS_total (a b : Str) : leS a b ∨ leS b a := List.le_total _ _
theorem srt_ex (ks : List Str) : ∃ ys : List Str, ys.Perm ks ∧ sortedS ys = true := by
  have hp := List.pairwise_mergeSort (le := fun a b : Str => decide (a.cps.toList ≤ b.cps.toList)) (fun a b c h1 h2 => decide_eq_true (List.le_trans (of_decide_eq_true h1) (of_decide_eq_true h2))) (fun a b => by
      rcases leS_total a b with h | h
      · have h' : a.cps.toList ≤ b.cps.toList := h
        rw [Bool.or_eq_true]
        exact .inl (decide_eq_true h')
      · have h' : b.cps.toList ≤ a.cps.toList := h
        rw [Bool.or_eq_true]
        exact .inr (decide_eq_true h')) ks
  exact ⟨_, List.mergeSort_perm _ _, pw_sorted (hp.imp fun {a b} h => of_decide_eq_true (p := a.cps.toList ≤ b.cps.toList) h)⟩
noncomputable def srtS (ks : List Str) : List Str := Classical.choose (srt_ex ks)
theorem srt_perm (ks : List Str) : (srtS ks).Perm ks := (Classical.choose_spec (srt_ex ks)).1
theorem srt_s (ks : List Str) : sortedS (srtS ks) = true := (Classical.choose_spec (srt_ex ks)).2
theorem srt_eq {ks ys : List Str} (h : ys.Perm ks) (hs : sortedS ys = true) : ys = srtS ks := sorted_uniq hs (srt_s ks) (h.trans (srt_perm ks).symm)
theorem Srt.srt {ks : List Str} {p : Str → Prop} (hn : ks.Nodup) (hm : ∀ x, x ∈ ks ↔ p x) : Srt (srtS ks) p := Srt.of hn hm (srt_perm ks) (srt_s ks)
theorem Srt.head {x : Str} {r : List Str} {p : Str → Prop} (a : Srt (x :: r) p) : p x := (a.m x).mp List.mem_cons_self

/-! ### dicts, locked or not -/
section
variable {K : PySem.W.Frag} {σ : L2.St} {H H' : Hp} {ta tb td ty te tc tv tx tf : TE} {t u : TT} {x y z v : V} {D : Ends} {tu tw tz : TS} {d p : Addr} {kvs : List (Key × V)} {k : Str}
theorem dget_rd (h : Rd H d (.dK kvs)) : DGet H d (.str k) (valV kvs (Sum.inr k)) := .inl ⟨kvs, Sum.inr k, h, rfl, rfl⟩
theorem ev_dgetS (h1 : Ev td σ H (.ref d)) (h2 : Ev ty σ H (.str k)) (hd : Rd H d (.dK kvs)) (hv : valV kvs (Sum.inr k) = some v) : Ev (tDGet td ty) σ H v := fun H1 e Q q =>
  h1 H1 e _ fun H2 e2 => h2 H2 (e.trans e2) _ fun H3 e3 => ⟨d, v, rfl, by
    have g := dget_rd (k := k) (ex_rd ((e.trans e2).trans e3) hd)
    rw [hv] at g
    exact g, q H3 (e2.trans e3)⟩
/-- d.get(k, ()) where k is there -/
theorem ev_dget2U {xs : List V} (h1 : Ev td σ H (.ref d)) (h2 : Ev ty σ H (.str k)) (hx : EvU tx σ H xs) (hd : Rd H d (.dK kvs)) (hv : valV kvs (Sum.inr k) = some v) : Ev (tDGet2 td ty tx) σ H v := fun H1 e Q q =>
  h1 H1 e _ fun H2 e2 => ⟨d, rfl, .inl ⟨kvs, ex_rd (e.trans e2) hd⟩, h2 H2 (e.trans e2) _ fun H3 e3 => hx H3 ((e.trans e2).trans e3) _ fun p H4 _ e4 _ => ⟨some v, by
    have g := dget_rd (k := k) (ex_rd (((e.trans e2).trans e3).trans e4) hd)
    rw [hv] at g
    exact g, q H4 ((e2.trans e3).trans e4)⟩⟩
theorem ev_dinS (h2 : Ev ty σ H (.str k)) (h1 : Ev td σ H (.ref d)) (hd : Rd H d (.dK kvs)) : Ev (tDIn ty td) σ H (.bl (valV kvs (Sum.inr k)).isSome) := fun H1 e Q q =>
  h2 H1 e _ fun H2 e2 => h1 H2 (e.trans e2) _ fun H3 e3 => ⟨d, _, rfl, dget_rd (ex_rd ((e.trans e2).trans e3) hd), q H3 (e2.trans e3)⟩
theorem ev_dninS (h2 : Ev ty σ H (.str k)) (h1 : Ev td σ H (.ref d)) (hd : Rd H d (.dK kvs)) : Ev (tDNotIn ty td) σ H (.bl (!(valV kvs (Sum.inr k)).isSome)) := fun H1 e Q q =>
  h2 H1 e _ fun H2 e2 => h1 H2 (e.trans e2) _ fun H3 e3 => ⟨d, _, rfl, dget_rd (ex_rd ((e.trans e2).trans e3) hd), q H3 (e2.trans e3)⟩
theorem s_dputS (hv : Ev tv σ H v) (h1 : ∀ H1, Ex H H1 → Ev td σ H1 (.ref d)) (h2 : ∀ H1, Ex H H1 → Ev ty σ H1 (.str k)) (hd : H d = some (.dK kvs)) (hl : kvs.length < 100000) (q : ∀ H1, Ex H H1 → D.nx σ (upd H1 d (.dK (putK kvs (Sum.inr k) v)))) : sDPut td ty tv D σ H :=
  hv H (Ex.refl H) _ fun H1 e1 => h1 H1 e1 H1 (Ex.refl H1) _ fun H2 e2 => h2 H2 (e1.trans e2) H2 (Ex.refl H2) _ fun H3 e3 => ⟨d, _, rfl, DPut.k (k := (Sum.inr k : Key)) (((e1.trans e2).trans e3) _ _ hd) (sz_lt hl), q H3 ((e1.trans e2).trans e3)⟩
theorem q_dputS (hv : Ev tv σ H v) (h1 : ∀ H1, Ex H H1 → Ev td σ H1 (.ref d)) (h2 : ∀ H1, Ex H H1 → Ev ty σ H1 (.str k)) (hd : H d = some (.dK kvs)) (hl : kvs.length < 100000) (q : ∀ H1, Ex H H1 → tz D σ (upd H1 d (.dK (putK kvs (Sum.inr k) v)))) : tSeq (sDPut td ty tv) tz D σ H :=
  s_dputS (D := { D with nx := tz D }) hv h1 h2 hd hl q
/-- d[k] = a new list -/
theorem s_dputL {xs : List V} (hv : EvL tv σ H xs) (h1 : ∀ H1, Ex H H1 → Ev td σ H1 (.ref d)) (h2 : ∀ H1, Ex H H1 → Ev ty σ H1 (.str k)) (hd : H d = some (.dK kvs)) (hl : kvs.length < 100000)
    (q : ∀ r H1, H r = none → Ex H H1 → H1 r = some (.lst xs) → D.nx σ (upd H1 d (.dK (putK kvs (Sum.inr k) (.ref r))))) : sDPut td ty tv D σ H :=
  hv H (Ex.refl H) _ fun r H1 nr e1 hr => h1 H1 e1 H1 (Ex.refl H1) _ fun H2 e2 => h2 H2 (e1.trans e2) H2 (Ex.refl H2) _ fun H3 e3 => ⟨d, _, rfl, DPut.k (k := (Sum.inr k : Key)) (((e1.trans e2).trans e3) _ _ hd) (sz_lt hl), q r H3 nr ((e1.trans e2).trans e3) (e3 _ _ (e2 _ _ hr))⟩
theorem q_dputL {xs : List V} (hv : EvL tv σ H xs) (h1 : ∀ H1, Ex H H1 → Ev td σ H1 (.ref d)) (h2 : ∀ H1, Ex H H1 → Ev ty σ H1 (.str k)) (hd : H d = some (.dK kvs)) (hl : kvs.length < 100000)
    (q : ∀ r H1, H r = none → Ex H H1 → H1 r = some (.lst xs) → tz D σ (upd H1 d (.dK (putK kvs (Sum.inr k) (.ref r))))) : tSeq (sDPut td ty tv) tz D σ H :=
  s_dputL (D := { D with nx := tz D }) hv h1 h2 hd hl q
/-- x = l.pop() -/
theorem q_pop {i : Nat} {l : Addr} {xs : List V} (ha : Ev ta σ H (.ref l)) (hl : H l = some (.lst xs)) (hx : xs[xs.length - 1]? = some v) (k : ∀ H1, Ex H H1 → tz D (σ.set i (some v)) (upd H1 l (.lst xs.dropLast))) :
    tSeq (tAsg (tBM0 K "list" rPop ta) (gName i)) tz D σ H := ha H (Ex.refl H) _ fun H1 e1 => ⟨Or.inl ⟨rfl, xs, sq_of (e1 _ _ hl)⟩, l, xs, v, rfl, rfl, e1 _ _ hl, hx, k H1 e1⟩
/-- sorted(d), sorted(l) of any size, as a new list -/
theorem el_sortedD {ks : List Str} (ha : Ev ta σ H (.ref d)) (hd : Rd H d (.dK kvs)) (hk : kvs.map (·.1) = ks.map Sum.inr) (hn : ks.length ≤ 100000) : EvL (tCB (rSortDA K) (tCons ta tNil)) σ H ((srtS ks).map V.str) := fun H1 e Q q =>
  ha H1 e _ fun H2 e2 => ⟨d, kvs, ks, rfl, ex_rd (e.trans e2) hd, hk, hn, fun ys p hp hs hnew => by
    rw [srt_eq hp hs]
    exact q p _ (fresh_back e2 hnew) (e2.trans (Ex.new hnew)) upd_same⟩
def rSortL (K : PySem.W.Frag) : List V → Hp → VK → Prop := fun vs H Q => ∃ (a : Addr) (xs : List Str), vs = [V.ref a] ∧ SqL K H a (xs.map V.str) ∧ xs.length < 64 ∧ ∀ (ys : List Str) (p : Addr), ys.Perm xs → sortedS ys = true → H p = none → Q (.ref p) (upd H p (.lst (ys.map V.str)))
theorem cr_sortL {X : Cx} : CallR X (.builtin "sorted") (rSortL X.K) := cr_sortedS
theorem el_sortedL {xs : List Str} (ha : Ev ta σ H (.ref p)) (hp : SqL K H p (xs.map V.str)) (hn : xs.length < 64) : EvL (tCB (rSortL K) (tCons ta tNil)) σ H ((srtS xs).map V.str) := fun H1 e Q q =>
  ha H1 e _ fun H2 e2 => ⟨p, xs, rfl, ex_l (e.trans e2) hp, hn, fun ys p hp hs hnew => by
    rw [srt_eq hp hs]
    exact q p _ (fresh_back e2 hnew) (e2.trans (Ex.new hnew)) upd_same⟩
end
/-! ### comprehensions whose elements are new objects -/
/-- H5 has what H4 has of the base H, and what is new behind H1 -/
def Sub5 (H H1 H4 H5 : Hp) : Prop := ∀ a o, H4 a = some o → (H a = some o ∨ H1 a = none) → H5 a = some o
def EvF (te : TE) (σ : L2.St) (B H : Hp) (P : V → Hp → Prop) : Prop := ∀ H1, Ex H H1 → ∀ Q : VK, (∀ v H4, Ex H1 H4 → (∀ H5, Sub5 B H1 H4 H5 → P v H5) → Q v H4) → te σ H1 Q
/-- the heap without d -/
def less (H : Hp) (d : Addr) : Hp := fun a => if a = d then none else H a
theorem less_ne {H : Hp} {d a : Addr} (h : a ≠ d) : less H d a = H a := if_neg h
theorem less_same {H : Hp} {d : Addr} : less H d d = none := if_pos rfl
theorem less_ex {H : Hp} {d : Addr} : Ex (less H d) H := fun a o h => by
  by_cases ha : a = d
  · rw [ha, less_same] at h
    cases h
  · rw [less_ne ha] at h
    exact h
theorem less_upd {H : Hp} {d : Addr} {o : HO} : less (upd H d o) d = less H d := funext fun a => by
  by_cases ha : a = d
  · rw [ha, less_same, less_same]
  · rw [less_ne ha, less_ne ha, upd_ne ha]
theorem less_mono {H H1 : Hp} {d : Addr} (e : Ex H H1) : Ex (less H d) (less H1 d) := fun a o h => by
  by_cases ha : a = d
  · rw [ha, less_same] at h
    cases h
  · rw [less_ne ha] at h ⊢
    exact e _ _ h
def Mo (P : Nat → V → Hp → Prop) : Prop := ∀ i v H1 H2, Ex H1 H2 → P i v H1 → P i v H2
section
variable {K : PySem.W.Frag} {σ : L2.St} {H H' : Hp} {ta tb td ty te tc tv tx tf tk tl : TE} {D : Ends} {d p : Addr} {kvs : List (Key × V)} {P : Nat → V → Hp → Prop}
/-- [e for x in d]: d locked -/
theorem lc_keysF {j : Nat} {vs : List Nat} (hP : Mo P) (h1 : ∀ H1, Ev td σ H1 (.ref d)) (hd : H d = some (.dK kvs)) (hz : kvs.length ≤ 40000) (hw : ∀ x, wipe ((wipe σ vs).set j (some x)) vs = wipe σ vs)
    (he : ∀ (i : Nat) (kv : Key × V) (H1 : Hp) (od : Obj), Ex (less H d) H1 → H1 d = some (.frz od (.dK kvs)) → kvs[i]? = some kv → EvF te ((wipe σ vs).set j (some (kV kv.1))) (less H d) H1 (P i)) :
    ∀ H0, Ex H H0 → ∀ Q : VK, (∀ p H2 (ys : List V), H0 p = none → Ex H0 H2 → H2 p = some (.lst ys) → ys.length = kvs.length → (∀ i v, ys[i]? = some v → P i v (less H2 p)) → Q (.ref p) H2) → tLockE (tLc (iKeys td) (gName j) tYes te vs) σ H0 Q := by
  intro H0 e0 Q k
  have hd0 := e0 _ _ hd
  refine ⟨d, .dK kvs, hd0, trivial, fun od => ?_⟩
  refine h1 _ _ (Ex.refl _) _ fun H1 e1 => ⟨d, od, rfl, .inl ⟨kvs, e1 _ _ upd_same, fun Dl hD => ?_⟩⟩
  have dn : H1 d = some (.frz od (.dK kvs)) := e1 _ _ upd_same
  have ne : Dl ≠ d := fun z => by rw [z] at hD; rw [hD] at dn; cases dn
  have exb : Ex (less H d) H1 := fun a o h => by
    by_cases ha : a = d
    · rw [ha, less_same] at h
      cases h
    · rw [less_ne ha] at h
      exact e1 _ _ (by rw [upd_ne ha]; exact e0 _ _ h)
  refine lc_it walk_keys (fun i H' => Ex H1 H' ∧ ∃ ys : List V, H' Dl = some (.lst ys) ∧ ys.length = i ∧ ∀ j v, ys[j]? = some v → P j v (less (less H' Dl) d)) ⟨Ex.new hD, [], upd_same, rfl, fun j v h => by simp at h⟩ (fun i H2 _ q => q.1 _ _ dn) (fun i x H2 H3 hi q y => ?_) (fun H2 q => ?_)
  · obtain ⟨rfl, ky, vv, hy, rfl⟩ := y
    obtain ⟨e2, ys, hl, hlen, hp⟩ := q
    refine ⟨hw _, ?_⟩
    show te _ _ fun y H4 => ∃ acc, _
    refine he i (ky, vv) H1 od exb dn hy _ e2 _ fun v H4 e4 hv => ?_
    have hl4 : H4 Dl = some (.lst ys) := e4 _ _ hl
    refine ⟨ys, hl4, sz_lt (by omega), Ex.mut (e2.trans e4) hD, ys ++ [v], upd_same, by rw [List.length_append]; show ys.length + 1 = i + 1; omega, fun j w hj => ?_⟩
    rw [less_upd]
    by_cases hlt : j < ys.length
    · rw [List.getElem?_append_left hlt] at hj
      exact hP _ _ _ _ (less_mono (less_mono e4)) (hp j w hj)
    · have ej : j = ys.length := by
        have := (List.getElem?_eq_some_iff.mp hj).1
        rw [List.length_append] at this
        have : j < ys.length + 1 := this
        omega
      subst ej
      rw [List.getElem?_append_right (Nat.le_refl _), Nat.sub_self] at hj
      cases Option.some.inj (show some v = some w from hj)
      rw [hlen]
      refine hv _ fun a o h4 hc => ?_
      have ad : a ≠ d := fun z => by
        subst z
        rcases hc with hc | hc
        · rw [less_same] at hc
          cases hc
        · rw [e2 _ _ dn] at hc
          cases hc
      have aD : a ≠ Dl := fun z => by
        subst z
        rcases hc with hc | hc
        · have := exb _ _ hc
          rw [hD] at this
          cases this
        · rw [hl] at hc
          cases hc
      rw [less_ne ad, less_ne aD]
      exact h4
  · obtain ⟨e2, ys, hl, hlen, hp⟩ := q
    have hd2 : H2 d = some (.frz od (.dK kvs)) := e2 _ _ dn
    refine ⟨hd2, k Dl _ ys ?_ ?_ ?_ hlen fun i v hi => hP _ _ _ _ ?_ (hp i v hi)⟩
    · cases h : H0 Dl with
      | none => rfl
      | some o =>
        have := e1 _ _ (by rw [upd_ne ne]; exact h)
        rw [hD] at this
        cases this
    · exact fun a o h => by
        by_cases ha : a = d
        · rw [ha] at h ⊢
          rw [upd_same, ← hd0, h]
        · rw [upd_ne ha]
          exact e2 _ _ (e1 _ _ (by rw [upd_ne ha]; exact h))
    · rw [upd_ne ne]
      exact hl
    · intro a o h
      by_cases ha : a = d
      · rw [ha, less_same] at h
        cases h
      · rw [less_ne ha] at h
        by_cases hb : a = Dl
        · rw [hb, less_same] at h
          cases h
        · rw [less_ne hb] at h ⊢
          rw [upd_ne ha]
          exact h
/-- {x: e for x in d}: d locked -/
theorem dc_keysF {j : Nat} {vs : List Nat} (hP : Mo P) (h1 : ∀ H1, Ev td σ H1 (.ref d)) (hd : H d = some (.dK kvs)) (hz : kvs.length ≤ 40000) (hn : (kvs.map (·.1)).Nodup) (hw : ∀ x, wipe ((wipe σ vs).set j (some x)) vs = wipe σ vs)
    (hj : ∀ x : V, ((wipe σ vs).set j (some x))[j]? = some (some x))
    (he : ∀ (i : Nat) (kv : Key × V) (H1 : Hp) (od : Obj), Ex (less H d) H1 → H1 d = some (.frz od (.dK kvs)) → kvs[i]? = some kv → EvF te ((wipe σ vs).set j (some (kV kv.1))) (less H d) H1 (P i)) :
    ∀ H0, Ex H H0 → ∀ Q : VK, (∀ p H2 (ls : List (Key × V)), H0 p = none → Ex H0 H2 → H2 p = some (.dK ls) → ls.map (·.1) = kvs.map (·.1) → (∀ i kv, ls[i]? = some kv → P i kv.2 (less H2 p)) → Q (.ref p) H2) → tLockE (tDc (iKeys td) (gName j) tYes (tVar j) te vs) σ H0 Q := by
  intro H0 e0 Q k
  have hd0 := e0 _ _ hd
  refine ⟨d, .dK kvs, hd0, trivial, fun od => ?_⟩
  refine h1 _ _ (Ex.refl _) _ fun H1 e1 => ⟨d, od, rfl, .inl ⟨kvs, e1 _ _ upd_same, fun Dl hD => ?_⟩⟩
  have dn : H1 d = some (.frz od (.dK kvs)) := e1 _ _ upd_same
  have ne : Dl ≠ d := fun z => by rw [z] at hD; rw [hD] at dn; cases dn
  have exb : Ex (less H d) H1 := fun a o h => by
    by_cases ha : a = d
    · rw [ha, less_same] at h
      cases h
    · rw [less_ne ha] at h
      exact e1 _ _ (by rw [upd_ne ha]; exact e0 _ _ h)
  let Pv : Nat → Hp → Prop := fun i H' => Ex H1 H' ∧ ∃ ls : List (Key × V), H' Dl = some (.dK ls) ∧ ls.map (·.1) = (kvs.take i).map (·.1) ∧ ∀ j kv, ls[j]? = some kv → P j kv.2 (less (less H' Dl) d)
  have h0 : Pv 0 (upd H1 Dl (.dK [])) := ⟨Ex.new hD, [], upd_same, rfl, fun j v h => by simp at h⟩
  have hs : ∀ i (k : Key) (v : V) H2, kvs[i]? = some (k, v) → Pv i H2 → te ((wipe σ vs).set j (some (kV k))) H2 fun z H5 => ∃ ls k', kV k = kV k' ∧ H5 Dl = some (.dK ls) ∧ ls.length < sizeLine ∧ Pv (i + 1) (upd H5 Dl (.dK (putK ls k' z))) := fun i ky vv H2 hy q => by
    obtain ⟨e2, ls, hl, hk, hp⟩ := q
    have hi : i < kvs.length := (List.getElem?_eq_some_iff.mp hy).1
    have hlen : ls.length = i := by
      have z := congrArg List.length hk
      rw [List.length_map, List.length_map, List.length_take, Nat.min_eq_left (Nat.le_of_lt hi)] at z
      exact z
    refine he i (ky, vv) H1 od exb dn hy _ e2 _ fun v H4 e4 hv => ?_
    have hl4 : H4 Dl = some (.dK ls) := e4 _ _ hl
    have hnk : ky ∉ ls.map (·.1) := by
      rw [hk]
      intro hm
      obtain ⟨kv, hkv, e⟩ := List.mem_map.mp hm
      obtain ⟨m, hm1, hm2⟩ := List.mem_iff_getElem.mp hkv
      have hmi : m < i := by
        rw [List.length_take] at hm1
        omega
      have hget : kvs[m]? = some kv := by
        rw [← hm2, List.getElem_take, List.getElem?_eq_getElem (by omega)]
      have h1 : (kvs.map (·.1))[m]? = some ky := by rw [List.getElem?_map, hget, ← e]; rfl
      have h2 : (kvs.map (·.1))[i]? = some ky := by rw [List.getElem?_map, hy]; rfl
      have := (List.getElem?_inj (by rw [List.length_map]; omega) hn).mp (h1.trans h2.symm)
      omega
    have hput : putK ls ky v = ls ++ [(ky, v)] := putK_new v (by
      cases hv' : valV ls ky with
      | none => rfl
      | some w =>
        exfalso
        apply hnk
        unfold valV at hv'
        cases hf : ls.find? fun kv => decide (kv.1 = ky) with
        | none => rw [hf] at hv'; cases hv'
        | some kv => exact List.mem_map.mpr ⟨kv, List.mem_of_find?_eq_some hf, of_decide_eq_true (List.find?_some (p := fun kv : Key × V => decide (kv.1 = ky)) hf)⟩)
    refine ⟨ls, ky, rfl, hl4, sz_lt (by omega), Ex.mut (e2.trans e4) hD, ls ++ [(ky, v)], by rw [hput]; exact upd_same, ?_, fun j w hj => ?_⟩
    · rw [List.map_append, hk, List.take_succ, hy, List.map_append]
      rfl
    rw [less_upd]
    by_cases hlt : j < ls.length
    · rw [List.getElem?_append_left hlt] at hj
      exact hP _ _ _ _ (less_mono (less_mono e4)) (hp j w hj)
    · have ej : j = ls.length := by
        have := (List.getElem?_eq_some_iff.mp hj).1
        rw [List.length_append] at this
        have : j < ls.length + 1 := this
        omega
      subst ej
      rw [List.getElem?_append_right (Nat.le_refl _), Nat.sub_self] at hj
      cases Option.some.inj (show some (ky, v) = some w from hj)
      rw [hlen]
      refine hv _ fun a o h4 hc => ?_
      have ad : a ≠ d := fun z => by
        subst z
        rcases hc with hc | hc
        · rw [less_same] at hc
          cases hc
        · rw [e2 _ _ dn] at hc
          cases hc
      have aD : a ≠ Dl := fun z => by
        subst z
        rcases hc with hc | hc
        · have := exb _ _ hc
          rw [hD] at this
          cases this
        · rw [hl] at hc
          cases hc
      rw [less_ne ad, less_ne aD]
      exact h4
  refine ⟨fun i m H => m = kvs.length - i ∧ i ≤ kvs.length ∧ Pv i H, ⟨kvs.length, by simp, Nat.zero_le _, h0⟩, ?_⟩
  rintro i m H2 ⟨rfl, hi, q⟩
  have dn2 : H2 d = some (.frz od (.dK kvs)) := q.1 _ _ dn
  by_cases hlt : i < kvs.length
  · refine .inr ⟨walk_keys.goes i H2 hlt dn2, Pv (i + 1), fun H' p' => ⟨kvs.length - (i + 1), by omega, rfl, hlt, p'⟩, fun x H' y => ?_⟩
    obtain ⟨rfl, ky, vv, hy, rfl⟩ := walk_keys.yields i H2 x H' hlt dn2 y
    refine ⟨hw _, ?_⟩
    exact ⟨kV ky, hj _, hs i ky vv _ hy q⟩
  · have e : i = kvs.length := by omega
    subst e
    refine .inl ⟨walk_keys.stops H2 dn2, ?_⟩
    obtain ⟨e2, ls, hl, hk, hp⟩ := q
    rw [List.take_length] at hk
    refine ⟨dn2, k Dl _ ls ?_ ?_ ?_ hk fun i v hi => hP _ _ _ _ ?_ (hp i v hi)⟩
    · cases h : H0 Dl with
      | none => rfl
      | some o =>
        have := e1 _ _ (by rw [upd_ne ne]; exact h)
        rw [hD] at this
        cases this
    · exact fun a o h => by
        by_cases ha : a = d
        · rw [ha] at h ⊢
          rw [upd_same, ← hd0, h]
        · rw [upd_ne ha]
          exact e2 _ _ (e1 _ _ (by rw [upd_ne ha]; exact h))
    · rw [upd_ne ne]
      exact hl
    · intro a o h
      by_cases ha : a = d
      · rw [ha, less_same] at h
        cases h
      · rw [less_ne ha] at h
        by_cases hb : a = Dl
        · rw [hb, less_same] at h
          cases h
        · rw [less_ne hb] at h ⊢
          rw [upd_ne ha]
          exact h
/-- [e for x in xs], xs a list told by its content -/
theorem lc_listF {j : Nat} {vs : List Nat} {Ps : List V → Prop} (hP : Mo P) (h : ∀ H1, Ex H H1 → ∀ Q : VK, (∀ p xs H2, Ps xs → Ex H1 H2 → SqL K H2 p xs → (∀ H3, Ex H2 H3 → SqL K H3 p xs) → Q (.ref p) H2) → tl σ H1 Q)
    (hw : ∀ x, wipe ((wipe σ vs).set j (some x)) vs = wipe σ vs) (he : ∀ (xs : List V) (i : Nat) (x : V) (H1 : Hp), Ps xs → xs.length ≤ 40000 ∧ (Ex H H1 → xs[i]? = some x → EvF te ((wipe σ vs).set j (some x)) H H1 (P i))) :
    ∀ H0, Ex H H0 → ∀ Q : VK, (∀ p H2 xs (ys : List V), Ps xs → H0 p = none → Ex H0 H2 → H2 p = some (.lst ys) → ys.length = xs.length → (∀ i v, ys[i]? = some v → P i v (less H2 p)) → Q (.ref p) H2) → tLc (iList K tl) (gName j) tYes te vs σ H0 Q := by
  intro H0 e0 Q k
  refine h H0 e0 _ fun a xs H1 hPs e1 hx hxm => ⟨a, rfl, ⟨xs, hx⟩, fun Dl hD => ?_⟩
  have hz : xs.length ≤ 40000 := (he xs 0 .non H1 hPs).1
  have exb : Ex H H1 := e0.trans e1
  refine lc_list (xs := xs) (fun i H' => Ex H1 H' ∧ ∃ ys : List V, H' Dl = some (.lst ys) ∧ ys.length = i ∧ ∀ j v, ys[j]? = some v → P j v (less H' Dl)) ⟨Ex.new hD, [], upd_same, rfl, fun j v h => by simp at h⟩ (fun i H' _ q => hxm _ q.1) (fun i x H3 hi q => ?_) (fun H2 q => ?_)
  · obtain ⟨e2, ys, hl, hlen, hp⟩ := q
    have hi' := (List.getElem?_eq_some_iff.mp hi).1
    refine ⟨hw _, ?_⟩
    show te _ _ fun y H4 => ∃ acc, _
    refine (he xs i x H1 hPs).2 exb hi _ e2 _ fun v H4 e4 hv => ?_
    have hl4 : H4 Dl = some (.lst ys) := e4 _ _ hl
    refine ⟨ys, hl4, sz_lt (by omega), Ex.mut (e2.trans e4) hD, ys ++ [v], upd_same, by rw [List.length_append]; show ys.length + 1 = i + 1; omega, fun j w hj => ?_⟩
    rw [less_upd]
    by_cases hlt : j < ys.length
    · rw [List.getElem?_append_left hlt] at hj
      exact hP _ _ _ _ (less_mono e4) (hp j w hj)
    · have ej : j = ys.length := by
        have := (List.getElem?_eq_some_iff.mp hj).1
        rw [List.length_append] at this
        have : j < ys.length + 1 := this
        omega
      subst ej
      rw [List.getElem?_append_right (Nat.le_refl _), Nat.sub_self] at hj
      cases Option.some.inj (show some v = some w from hj)
      rw [hlen]
      refine hv _ fun a o h4 hc => ?_
      have aD : a ≠ Dl := fun z => by
        subst z
        rcases hc with hc | hc
        · have := exb _ _ hc
          rw [hD] at this
          cases this
        · rw [hl] at hc
          cases hc
      rw [less_ne aD]
      exact h4
  · obtain ⟨e2, ys, hl, hlen, hp⟩ := q
    exact k Dl _ xs ys hPs (fresh_back e1 hD) (e1.trans e2) hl hlen hp
end
/-! ### dict(..) of a list of pairs -/
theorem merge_nodup : ∀ (more kvs : List (Key × V)), ((kvs ++ more).map (·.1)).Nodup → mergeK kvs more = kvs ++ more
  | [], kvs, _ => (List.append_nil kvs).symm
  | (k, v) :: r, kvs, h => by
    show mergeK (putK kvs k v) r = _
    have hk : k ∉ kvs.map (·.1) := fun hm => by
      rw [List.map_append, List.nodup_append] at h
      exact h.2.2 _ hm _ (List.mem_map_of_mem List.mem_cons_self) rfl
    have hput : putK kvs k v = kvs ++ [(k, v)] := putK_new v (by
      cases hv' : valV kvs k with
      | none => rfl
      | some w =>
        exfalso
        apply hk
        unfold valV at hv'
        cases hf : kvs.find? fun kv => decide (kv.1 = k) with
        | none => rw [hf] at hv'; cases hv'
        | some kv => exact List.mem_map.mpr ⟨kv, List.mem_of_find?_eq_some hf, of_decide_eq_true (List.find?_some (p := fun kv : Key × V => decide (kv.1 = k)) hf)⟩)
    rw [hput, merge_nodup r (kvs ++ [(k, v)]) (by rw [List.append_assoc]; exact h), List.append_assoc]
    rfl
theorem val_nodup {kvs : List (Key × V)} (hn : (kvs.map (·.1)).Nodup) {i : Nat} {k : Key} {v : V} (h : kvs[i]? = some (k, v)) : valV kvs k = some v := by
  induction kvs generalizing i with
  | nil => simp at h
  | cons x r ih =>
    cases i with
    | zero =>
      cases Option.some.inj (show some x = some (k, v) from by simpa using h)
      exact valV_pos rfl
    | succ i =>
      rw [List.map_cons, List.nodup_cons] at hn
      have h' : r[i]? = some (k, v) := by simpa using h
      rw [valV_neg (fun z => hn.1 (List.mem_map.mpr ⟨(k, v), List.mem_of_getElem? h', z.symm⟩))]
      exact ih hn.2 h'
/-- what stands at t is the pair (key, w) -/
def PairAt (key : Nat → Key) (R : Nat → V → Hp → Prop) (i : Nat) (v : V) (H : Hp) : Prop := ∃ t w, v = .ref t ∧ H t = some (.tup [kV (key i), w]) ∧ R i w H
theorem pairAt_mo {key : Nat → Key} {R : Nat → V → Hp → Prop} (h : Mo R) : Mo (PairAt key R) := fun i v H1 H2 e ⟨t, w, a, b, c⟩ => ⟨t, w, a, e _ _ b, h _ _ _ _ e c⟩
theorem pairs_of {key : Nat → Key} {R : Nat → V → Hp → Prop} {H : Hp} : ∀ (ys : List V) (m : Nat), (∀ i v, ys[i]? = some v → PairAt key R (m + i) v H) →
    ∃ (ps : List Addr) (kvs : List (Key × V)), ys = ps.map V.ref ∧ Paired (fun p (kv : Key × V) => H p = some (.tup [kV kv.1, kv.2])) ps kvs ∧ kvs.length = ys.length ∧ ∀ i kv, kvs[i]? = some kv → kv.1 = key (m + i) ∧ R (m + i) kv.2 H
  | [], _, _ => ⟨[], [], rfl, .nil, rfl, fun i kv h => by simp at h⟩
  | y :: r, m, h => by
    obtain ⟨t, w, rfl, ht, hw⟩ := h 0 y rfl
    obtain ⟨ps, kvs, h1, h2, h3, h4⟩ := pairs_of r (m + 1) fun i v hi => by
      have := h (i + 1) v (by simpa using hi)
      rw [show m + (i + 1) = m + 1 + i by omega] at this
      exact this
    refine ⟨t :: ps, (key (m + 0), w) :: kvs, by rw [h1]; rfl, .cons ht h2, by rw [List.length_cons, List.length_cons, h3], fun i kv hi => ?_⟩
    cases i with
    | zero =>
      cases Option.some.inj (show some _ = some kv from hi)
      exact ⟨rfl, hw⟩
    | succ i =>
      have := h4 i kv (by simpa using hi)
      rw [show m + 1 + i = m + (i + 1) by omega] at this
      exact this
theorem ev_dictF {K : PySem.W.Frag} {σ : L2.St} {H : Hp} {te : TE} {key : Nat → Key} {R : Nat → V → Hp → Prop} {Pc : Nat → Prop} (hR : Mo R)
    (h : ∀ H0, Ex H H0 → ∀ Q : VK, (∀ p H2 (ys : List V), Pc ys.length → H0 p = none → Ex H0 H2 → H2 p = some (.lst ys) → (∀ i v, ys[i]? = some v → PairAt key R i v (less H2 p)) → Q (.ref p) H2) → te σ H0 Q)
    (hn : ∀ n, Pc n → ((List.range n).map key).Nodup) :
    ∀ H0, Ex H H0 → ∀ Q : VK, (∀ p H2 (kvs : List (Key × V)), Pc kvs.length → H0 p = none → Ex H0 H2 → H2 p = some (.dK kvs) → (∀ i kv, kvs[i]? = some kv → kv.1 = key i ∧ R i kv.2 (less H2 p)) → Q (.ref p) H2) → tCB (rDictP K) (tCons te tNil) σ H0 Q := fun H0 e0 Q q =>
  h H0 e0 _ fun p H2 ys hc hp e2 hl hy => by
    obtain ⟨ps, kvs, h1, h2, h3, h4⟩ := pairs_of (m := 0) ys fun i v hi => by rw [Nat.zero_add]; exact hy i v hi
    refine ⟨p, ps, kvs, rfl, by rw [← h1]; exact sq_of hl, Paired.mapP h2 fun b kv hb => st_of (less_ex _ _ hb), fun r hr => ?_⟩
    have hk : kvs.map (·.1) = (List.range kvs.length).map key := List.ext_getElem? fun i => by
      rw [List.getElem?_map, List.getElem?_map]
      by_cases hi : i < kvs.length
      · rw [List.getElem?_range hi, List.getElem?_eq_getElem hi]
        have := (h4 i kvs[i] (List.getElem?_eq_getElem hi)).1
        rw [Nat.zero_add] at this
        exact congrArg some this
      · rw [List.getElem?_eq_none (Nat.le_of_not_lt hi), List.getElem?_eq_none (by rw [List.length_range]; exact Nat.le_of_not_lt hi)]
        rfl
    have hm : mergeK [] kvs = kvs := merge_nodup kvs [] (by
      rw [List.nil_append, hk]
      exact hn _ (h3 ▸ hc))
    refine q r _ kvs (h3 ▸ hc) (fresh_back e2 hr) (e2.trans (Ex.new hr)) (by rw [hm]; exact upd_same) fun i kv hi => ?_
    have := h4 i kv hi
    rw [Nat.zero_add] at this
    refine ⟨this.1, hR _ _ _ _ (fun a o ha => ?_) this.2⟩
    have har : a ≠ r := fun z => by
      rw [z] at ha
      rw [less_ex _ _ ha] at hr
      cases hr
    rw [less_ne har, upd_ne har]
    exact less_ex _ _ ha
end Kn
/-! ### sorted(d, reverse=True), keys all texts -/
namespace SrtO
open PySem PyProof.Rows Srt
section
variable {prog : Program} {w : World} {A : Around} {E : Value → Shared → Prop} {s : Shared}
def svS : Value → PySem.Str
  | .str x _ => x
  | _ => PySem.Str.empty
def ltSvS (v u : Value) : Bool := decide ((svS v).cps.toList < (svS u).cps.toList)
theorem swo_svS : Swo ltSvS := by
  refine ⟨fun x y h => ?_, fun x y z h1 h2 => ?_⟩
  · have a := of_decide_eq_true (p := (svS x).cps.toList < (svS y).cps.toList) h
    exact decide_eq_false (p := (svS y).cps.toList < (svS x).cps.toList) (List.lt_asymm a)
  · have a : ¬ (svS y).cps.toList < (svS x).cps.toList := of_decide_eq_false (p := (svS y).cps.toList < (svS x).cps.toList) h1
    have b : ¬ (svS z).cps.toList < (svS y).cps.toList := of_decide_eq_false (p := (svS z).cps.toList < (svS y).cps.toList) h2
    have c : (svS x).cps.toList ≤ (svS z).cps.toList := List.le_trans (show (svS x).cps.toList ≤ (svS y).cps.toList from a) b
    exact decide_eq_false (p := (svS z).cps.toList < (svS x).cps.toList) c
theorem strs_memS : ∀ {vs : List Value} {ns : List PySem.Str}, StrsAre vs ns → ∀ v ∈ vs, ∃ i t, v = Value.str i t
  | _, _, .nil, v, h => absurd h (by simp)
  | _, _, .cons n t r, v, h => by
    rcases List.mem_cons.mp h with e | h
    · exact ⟨n, t, e⟩
    · exact strs_memS r v h
theorem strs_svS : ∀ {vs : List Value}, (∀ v ∈ vs, ∃ i t, v = Value.str i t) → StrsAre vs (vs.map svS)
  | [], _ => .nil
  | v :: vs, h => by
    obtain ⟨i, t, e⟩ := h v List.mem_cons_self
    subst e
    exact .cons i t (strs_svS fun u hu => h u (List.mem_cons_of_mem _ hu))
theorem svS_strs : ∀ {vs : List Value} {ns : List PySem.Str}, StrsAre vs ns → vs.map svS = ns
  | _, _, .nil => rfl
  | _, _, .cons n t r => congrArg (n :: ·) (svS_strs r)
theorem str_cmpS {vs : List Value} {ns : List PySem.Str} (hI : StrsAre vs ns) : Cmp prog w A s oneType' (fun p => p.1 ∈ vs) (lt2 ltSvS) := by
  intro p q hm hm'
  obtain ⟨a, t, e⟩ := strs_memS hI _ hm
  obtain ⟨b, u, e'⟩ := strs_memS hI _ hm'
  show wpAny (model prog w) A (keyLt' oneType' p.1 q.1) (fun r s' => s' = s ∧ r = ltSvS p.1 q.1) (fun _ _ => False) s
  rw [e, e', keyLt'_oneType]
  exact oneLt_str ⟨rfl, rfl⟩
theorem strs_sortableS {a : Addr} {vs : List Value} {ns : List PySem.Str} (hI : StrsAre vs ns) (h2 : 2 ≤ vs.length) : SortableO prog w A s a vs ltSvS := by
  intro h' _
  refine ⟨oneType', fun Q E hq => ?_, str_cmpS hI⟩
  match vs, hI, h2 with
  | v1 :: v2 :: rest, hI, _ =>
    rw [keyKind_strs hI]
    exact wpAny_pure hq
  | [], _, h => exact absurd h (by decide)
  | [v], _, h => exact absurd h (by simp)
end
end SrtO
namespace Kn
open PySem PySem.Spec PyProof.Rows L2 Evl SX
def rSortRevD (K : PySem.W.Frag) : List V → List V → Hp → VK → Prop := fun xs zs H Q => ∃ (a : Addr) (kvs : List (Key × V)) (ks : List Str), xs = [.ref a] ∧ zs = [.bl true] ∧ Rd H a (.dK kvs) ∧ kvs.map (·.1) = ks.map Sum.inr ∧ ks.length ≤ 100000 ∧ ∀ (ys : List Str) (p : Addr), ys.Perm ks → H p = none → Q (.ref p) (L2.upd H p (.lst (ys.map V.str)))
theorem cr_sortRevD {X : Cx} (hcalm : X.calm = true) : CallRK X (.builtin "sorted") [Str.ofString "reverse"] (rSortRevD X.K) := by
  intro pins s σ H xs zs us ws Q I r rz q
  obtain ⟨a, kvs, ks, rfl, rfl, hd, hks, h64, q⟩ := q
  obtain rfl := Vals.ref1 r
  obtain ⟨w1, rfl, e1⟩ := vals1 rz
  obtain rfl : w1 = Value.bool true := e1
  obtain ⟨z, lo, vs, rel, dd⟩ := dk_rd I.hok hd
  obtain ⟨ep, hat⟩ := dd.dictAt
  have hkeys : vs.map (·.1) = ks.map Sum.inr := rel.keys.symm.trans hks
  have hl : vs.length = ks.length := by
    have e := congrArg List.length hkeys
    rw [List.length_map, List.length_map] at e
    exact e
  have h16 : vs.length ≤ sizeLine := by rw [hl, sizeLine_eq]; omega
  refine PyProof.Rows.call_function_entry_kw PyProof.Rows.kind_sorted PyProof.Rows.plain_sorted PyProof.Rows.entry_sorted (PyProof.Rows.args_sorted_rev _ _) ?_
  unfold Builtin.«sorted»
  refine wpAny_bind (m := checkCount "sorted" 1 1 _) (wpAny_pure ?_)
  refine wpAny_bind (PySem.W.kdu_collect (A := X.A.in1) (PySem.W.kdl_dict (knd := mixKind X.prog X.w) (kvs := vs) (ep := ep) lo) (I.ok.hd hcalm) hat h16 fun h' tk acc hk hacc => ?_)
  have hal : acc.toList.length = ks.length := by rw [Array.length_toList, hacc.1, hl]
  have hS : StrsAre acc.toList ks := strs_at hal fun j v e => by
    obtain ⟨k, x, e1, e2⟩ := hacc.2 j v (by rw [← Array.getElem?_toList]; exact e)
    have e3 : (vs.map (·.1))[j]? = some k := by rw [List.getElem?_map, e1]; all_goals rfl
    rw [hkeys, List.getElem?_map] at e3
    cases e4 : ks[j]? with
    | none => rw [e4] at e3; cases e3
    | some y =>
      rw [e4] at e3
      have e5 : Sum.inr y = k := Option.some.inj e3
      subst e5
      obtain ⟨t, ev⟩ := Value.isStrOf_shape (x := y) (v := v) e2
      exact ⟨y, t, rfl, ev⟩
  have I1 : Inv X pins σ H { s with heap := h', toks := tk } := I.kept hk
  have hzl : acc.toList.length ≤ sizeLine := by rw [hal, sizeLine_eq]; omega
  refine wpAny_bind (wpAny_newList ?_ hzl)
  have hoL : (h'.push (seqObj "list" acc.toList.toArray 0)).get? h'.objs.size = some (seqObj "list" acc.toList.toArray 0) := Heap.get?_push_size _ rfl
  show wpAny _ _ _ _ _ { s with heap := h'.push (seqObj "list" acc.toList.toArray 0), toks := tk }
  refine wpAny_bind (wpAny_holding (PyProof.Rows.wpAny_call_entry_kw PyProof.Rows.slot_list_sort ⟨_, hoL, rfl⟩ PyProof.Rows.entry_list_sort ?_ (PyProof.Rows.args_list_sort_rev _ _)))
  refine SrtR.list_sort_ordR (s := { s with heap := h'.push (seqObj "list" acc.toList.toArray 0), toks := tk }) SrtO.swo_svS hoL hzl (fun h2 => SrtO.strs_sortableS hS h2) fun out hs hb => ⟨_, rfl, ?_⟩
  have hb' : SrtO.Stb SrtO.ltSvS out acc.toList.reverse := hb
  have hmem : ∀ v ∈ out, ∃ i t, v = Value.str i t := fun v hv => SrtO.strs_memS hS v (List.mem_reverse.mp (hb'.perm.mem_iff.mp hv))
  have hperm : (out.map SrtO.svS).Perm ks := by
    have q1 := (hb'.perm.trans (List.reverse_perm _)).map SrtO.svS
    rw [SrtO.svS_strs hS] at q1
    exact q1
  obtain ⟨e', he'⟩ := PyProof.Rows.sortedHeap_at (vs := acc.toList) (out := out.toArray.reverse) hoL
  have g1 : StrsAre out.reverse (out.reverse.map SrtO.svS) := SrtO.strs_svS fun v hv => hmem v (List.mem_reverse.mp hv)
  have g2 : (out.reverse.map SrtO.svS).Perm ks := ((List.reverse_perm out).map SrtO.svS).trans hperm
  have hlen : ((out.reverse.map SrtO.svS).map V.str).length ≤ sizeLine := by
    rw [List.length_map, g2.length_eq]
    exact sz_of h64
  refine wpAny_pure ⟨_, rfl, .ref h'.objs.size, upd H h'.objs.size (.lst ((out.reverse.map SrtO.svS).map V.str)), I1.laid (t' := tk) (fun b u e => ?_) (Nat.le_refl _)
    (show ObjOk X.prog X.w _ _ _ (.lst ((out.reverse.map SrtO.svS).map V.str)) from ⟨hlen, out.reverse, e', vals_of_strs g1, by
      have e6 : out.toArray.reverse = out.reverse.toArray := by simp
      rw [← e6]
      exact he'⟩), rfl, q _ _ g2 (I1.hok.fresh (Nat.le_refl _))⟩
  have hb : b < h'.objs.size := Heap.lt_size e
  rw [PyProof.Rows.sortedHeap_old (Nat.ne_of_lt hb) (by rw [size_push']; exact Nat.lt_succ_of_lt hb)]
  exact Heap.get?_push_of_some _ e
end Kn
/-! ### comprehensions over texts, with a test -/
namespace Kn
open PySem PySem.Spec PyProof.Rows L2 Evl SX
theorem given_take {ns : List Str} {p : Str → Bool} : ∀ n, n ≤ ns.length → given n (fun i => (ns[i]?.map p).getD false) (fun i => (ns[i]?.map V.str).getD .non) = ((ns.take n).filter p).map V.str
  | 0, _ => rfl
  | n + 1, h => by
    have hn : n < ns.length := h
    have e : ns[n]? = some ns[n] := List.getElem?_eq_getElem hn
    have ih := given_take (ns := ns) (p := p) n (Nat.le_of_lt hn)
    rw [List.take_succ, e]
    show _ = ((ns.take n ++ [ns[n]]).filter p).map V.str
    rw [List.filter_append, List.map_append, ← ih]
    cases hp : p ns[n] with
    | true =>
      rw [given_yes (by rw [e]; exact hp), e, List.filter_cons, hp]
      rfl
    | false =>
      rw [given_no (by rw [e]; exact hp), List.filter_cons, hp]
      exact (List.append_nil _).symm
theorem given_filter {ns : List Str} {p : Str → Bool} : given ns.length (fun i => (ns[i]?.map p).getD false) (fun i => (ns[i]?.map V.str).getD .non) = (ns.filter p).map V.str := by
  rw [given_take ns.length (Nat.le_refl _), List.take_length]
section
variable {K : PySem.W.Frag} {σ : L2.St} {H H' : Hp} {te tl : TE} {t : TT} {a : Addr} {j : Nat} {vs : List Nat}
theorem el_lcFN {ns : List Str} {p : Str → Bool} (h : EvL tl σ H (ns.map V.str)) (hz : ns.length ≤ 40000) (hw : ∀ x, wipe ((wipe σ vs).set j (some x)) vs = wipe σ vs)
    (ht : ∀ n ∈ ns, ∀ H1, Ex H H1 → EvT t ((wipe σ vs).set j (some (.str n))) H1 (p n)) (he : ∀ (n : Str) H1, Ev te ((wipe σ vs).set j (some (.str n))) H1 (.str n)) : EvL (tLc (iList K tl) (gName j) t te vs) σ H ((ns.filter p).map V.str) := by
  have k := el_lcNL (K := K) (te := te) (t := t) (j := j) (vs := vs) (fun i => (ns[i]?.map p).getD false) (fun i => (ns[i]?.map V.str).getD .non) h (by rw [List.length_map]; exact hz) hw (fun i x H1 e hi => by
    rw [List.getElem?_map] at hi
    cases hn : ns[i]? with
    | none => rw [hn] at hi; cases hi
    | some n =>
      rw [hn] at hi
      cases Option.some.inj hi
      exact ht n (List.mem_of_getElem? hn) H1 e) (fun i x H1 e hi _ => by
    rw [List.getElem?_map] at hi
    cases hn : ns[i]? with
    | none => rw [hn] at hi; cases hi
    | some n =>
      rw [hn] at hi
      cases Option.some.inj hi
      exact he n H1)
  rw [List.length_map, given_filter] at k
  exact k
theorem el_lcFL {ns : List Str} {p : Str → Bool} (h : Ev tl σ H (.ref a)) (hx : SqL K H a (ns.map V.str)) (hz : ns.length ≤ 40000) (hw : ∀ x, wipe ((wipe σ vs).set j (some x)) vs = wipe σ vs)
    (ht : ∀ n ∈ ns, ∀ H1, Ex H H1 → EvT t ((wipe σ vs).set j (some (.str n))) H1 (p n)) (he : ∀ (n : Str) H1, Ev te ((wipe σ vs).set j (some (.str n))) H1 (.str n)) : EvL (tLc (iList K tl) (gName j) t te vs) σ H ((ns.filter p).map V.str) := by
  have k := el_lcL (K := K) (te := te) (t := t) (j := j) (vs := vs) (fun i => (ns[i]?.map p).getD false) (fun i => (ns[i]?.map V.str).getD .non) h hx (by rw [List.length_map]; exact hz) hw (fun i x H1 e hi => by
    rw [List.getElem?_map] at hi
    cases hn : ns[i]? with
    | none => rw [hn] at hi; cases hi
    | some n =>
      rw [hn] at hi
      cases Option.some.inj hi
      exact ht n (List.mem_of_getElem? hn) H1 e) (fun i x H1 e hi _ => by
    rw [List.getElem?_map] at hi
    cases hn : ns[i]? with
    | none => rw [hn] at hi; cases hi
    | some n =>
      rw [hn] at hi
      cases Option.some.inj hi
      exact he n H1)
  rw [List.length_map, given_filter] at k
  exact k
theorem flat_strs (xs : List Str) : (xs.map V.str).all flatV = true := by
  rw [List.all_eq_true]
  intro v hv
  obtain ⟨x, _, rfl⟩ := List.mem_map.mp hv
  rfl
theorem inV_strs {x : Str} {xs : List Str} : inV (.str x) (xs.map V.str) = decide (x ∈ xs) := by
  unfold inV
  rw [Bool.eq_iff_iff, decide_eq_true_eq]
  simp only [List.any_map, List.any_eq_true, Function.comp]
  constructor
  · rintro ⟨y, hy, h⟩
    have e : y = x := by
      unfold eqV at h
      simpa using h
    rw [← e]
    exact hy
  · intro h
    exact ⟨x, h, by unfold eqV; simp⟩
/-- x in xs, a list of texts -/
theorem ev_inStrs {ta tb : TE} {x : Str} {xs : List Str} (ha : Ev ta σ H (.str x)) (hb : Ev tb σ H (.ref a)) (h : SqL K H a (xs.map V.str)) : Ev (tOp (rIn K false) ta tb) σ H (.bl (decide (x ∈ xs))) :=
  ev_is (ev_op ha hb (rv_isL h rfl (flat_strs xs))) (by rw [inV_strs])
theorem ev_ninStrs {ta tb : TE} {x : Str} {xs : List Str} (ha : Ev ta σ H (.str x)) (hb : Ev tb σ H (.ref a)) (h : SqL K H a (xs.map V.str)) : Ev (tOp (rIn K true) ta tb) σ H (.bl (!decide (x ∈ xs))) :=
  ev_is (ev_op ha hb (rv_niL h rfl (flat_strs xs))) (by rw [inV_strs])
end
end Kn
namespace Kn
open PySem PySem.Spec PyProof.Rows L2 Evl SX
def rLenDR : List V → Hp → VK → Prop := fun xs H Q => ∃ d kvs, xs = [.ref d] ∧ Rd H d (.dK kvs) ∧ Q (.int kvs.length) H
theorem cr_lenDR {X : Cx} : CallR X (.builtin "len") rLenDR := by
  intro pins s σ H xs us Q I r h
  obtain ⟨a, kvs, rfl, ha, q⟩ := h
  obtain ⟨u, rfl, ru⟩ := vals1 r
  cases ru
  exact d_len I ha fun t s' I' => ⟨.int kvs.length, H, I', ⟨t, rfl⟩, q⟩
theorem ev_lenDR {σ : L2.St} {H : Hp} {td : TE} {d : Addr} {kvs : List (Key × V)} (h : Ev td σ H (.ref d)) (hd : Rd H d (.dK kvs)) : Ev (tCB rLenDR (tCons td tNil)) σ H (.int (kvs.length : Int)) := fun H1 e Q q => h H1 e _ fun H2 e2 => ⟨d, kvs, rfl, ex_rd (e.trans e2) hd, q H2 e2⟩
end Kn
namespace Kn
open PySem PySem.Spec PyProof.Rows L2 Evl SX
theorem evf_tup {te : TE} {σ : L2.St} {B H : Hp} {xs : List V} {P : V → Hp → Prop} (h : EvU te σ H xs) (k : ∀ t H5, H5 t = some (.tup xs) → P (.ref t) H5) : EvF te σ B H P := fun H1 e1 Q q =>
  h H1 e1 _ fun t H4 ht e4 h4 => q (.ref t) H4 e4 fun H5 h5 => k t H5 (h5 _ _ h4 (.inr ht))
end Kn
namespace Kn
open PySem PySem.Spec PyProof.Rows L2 Evl SX
section
variable {K : PySem.W.Frag} {σ : L2.St} {H H' : Hp} {td te tl : TE} {D : Ends} {tz tu : TS} {d p : Addr} {kvs : List (Key × V)}
/-- for x in d, the dict locked meanwhile; the body neither breaks nor returns -/
theorem q_forKeys {j : Nat} (h1 : ∀ H1, Ev td σ H1 (.ref d)) (hd : H d = some (.dK kvs)) (Pv : Obj → Nat → L2.St → Hp → Prop)
    (h0 : ∀ od H1, Ex (less H d) H1 → H1 d = some (.frz od (.dK kvs)) → Pv od 0 σ H1) (hG : ∀ od i σ' H', Pv od i σ' H' → H' d = some (.frz od (.dK kvs)))
    (hs : ∀ od i (k : Key) (v : V) σ' H' (D' : Ends), kvs[i]? = some (k, v) → Pv od i σ' H' → tu { D' with nx := Pv od (i + 1), ct := Pv od (i + 1) } (σ'.set j (some (kV k))) H')
    (hd' : ∀ od σ' H', Pv od kvs.length σ' H' → tz D σ' (upd H' d (.dK kvs))) : tSeq (tLock (tFor (iKeys td) (gName j) tu)) tz D σ H := by
  refine ⟨d, .dK kvs, hd, trivial, fun od => ?_⟩
  refine h1 _ _ (Ex.refl _) _ fun H1 e1 => ⟨d, od, rfl, .inl ⟨kvs, e1 _ _ upd_same, ?_⟩⟩
  have dn : H1 d = some (.frz od (.dK kvs)) := e1 _ _ upd_same
  have exb : Ex (less H d) H1 := fun a o h => by
    by_cases ha : a = d
    · rw [ha, less_same] at h
      cases h
    · rw [less_ne ha] at h
      exact e1 _ _ (by rw [upd_ne ha]; exact h)
  refine for_it walk_keys (Pv od) (h0 od H1 exb dn) (fun i σ' H' _ q => hG od i σ' H' q) (fun i x σ' H2 H3 hi q y => ?_) (fun σ' H2 q => ⟨hG od _ σ' H2 q, hd' od σ' H2 q⟩)
  obtain ⟨rfl, k, v, hk, rfl⟩ := y
  exact hs od i k v σ' _ ⟨fun _ _ => True, fun v H' => H' d = some (.frz od (.dK kvs)) ∧ D.rt v (upd H' d (.dK kvs)), fun σ' H' => H' d = some (.frz od (.dK kvs)) ∧ tz D σ' (upd H' d (.dK kvs)), fun _ _ => True⟩ hk q
theorem evd_strsL {xs : List Str} (h : EvL te σ H (xs.map V.str)) : EvD te σ H (.list (xs.map .str)) := fun H1 e Q q => h H1 e _ fun p H2 _ e2 hp => q (.ref p) H2 e2 (.lst hp (dta_strs xs))
/-- the source of a comprehension first -/
theorem lc_first {g : TG} {tt : TT} {vs : List Nat} {Q : VK} (h : tl σ H fun v H1 => tLc (iList K (tC v)) g tt te vs σ H1 Q) : tLc (iList K tl) g tt te vs σ H Q := h
theorem tcb_first {r : List V → Hp → VK → Prop} {Q : VK} (h : te σ H fun v H1 => tCB r (tCons (tC v) tNil) σ H1 Q) : tCB r (tCons te tNil) σ H Q := h
end
end Kn
namespace Kn
open PySem PySem.Spec PyProof.Rows L2 Evl SX
theorem cr_listSK {X : Cx} {K : PySem.W.Frag} (h : X.K = K) : CallR X (.type "list") (rListS K) := by subst h; exact cr_listS
/-- list(..) of a list, as a new object -/
theorem evf_pairL {σ : L2.St} {B H : Hp} {K : PySem.W.Frag} {ta tb : TE} {x : V} {xs : List V} {P : V → Hp → Prop} (ha : Ev ta σ H x) (hb : EvL tb σ H xs) (k : ∀ t q H5, H5 t = some (.tup [x, .ref q]) → H5 q = some (.lst xs) → P (.ref t) H5) :
    EvF (tTup (tCons ta (tCons tb tNil))) σ B H P := fun H1 e1 Q q =>
  ha H1 e1 _ fun H2 e2 => hb H2 (e1.trans e2) _ fun p H3 hp e3 h3 => ⟨by show 2 ≤ _; decide, fun t ht => q (.ref t) _ ((e2.trans e3).trans (Ex.new ht)) fun H5 h5 =>
    k t p H5 (h5 _ _ upd_same (.inr (fresh_back (e2.trans e3) ht))) (h5 _ _ (by rw [upd_ne (fun z => by rw [z] at h3; rw [h3] at ht; cases ht)]; exact h3) (.inr (fresh_back e2 hp)))⟩
end Kn
namespace Kn
open PySem PySem.Spec PyProof.Rows L2 Evl SX
theorem tcb_lc {r : List V → Hp → VK → Prop} {K : PySem.W.Frag} {σ : L2.St} {H : Hp} {tl te : TE} {g : TG} {tt : TT} {vs : List Nat} {Q : VK} (h : tl σ H fun v H1 => tCB r (tCons (tLc (iList K (tC v)) g tt te vs) tNil) σ H1 Q) : tCB r (tCons (tLc (iList K tl) g tt te vs) tNil) σ H Q := h
theorem s_asgOf {te : TE} {g : TG} {D : Ends} {σ : L2.St} {H : Hp} (h : te σ H fun v H1 => g v σ H1 D.nx) : tAsg te g D σ H := h
theorem q_asgOf {te : TE} {g : TG} {D : Ends} {σ : L2.St} {H : Hp} {tz : TS} (h : te σ H fun v H1 => g v σ H1 (tz D)) : tSeq (tAsg te g) tz D σ H := h
end Kn
namespace Kn
open PySem PySem.Spec PyProof.Rows L2 Evl SX
theorem can_lists : ∀ {ls : List (List Str)}, (∀ l ∈ ls, ∀ y ∈ l, okS y.cps.toList = true) → PyData.canLayAll0 (ls.map fun l => .list (l.map .str)) = true
  | [], _ => rfl
  | l :: r, h => by
    rw [List.map_cons]
    refine can_cons ?_ (can_lists fun m hm => h m (List.mem_cons_of_mem _ hm))
    show PyData.canLayAll0 (l.map .str) = true
    exact canL_strs (h l List.mem_cons_self)
theorem depth_lists : ∀ ls : List (List Str), PyData.depthAll (ls.map fun l => .list (l.map .str)) ≤ 1
  | [] => Nat.zero_le _
  | l :: r => by
    show max (PyData.depthAll (l.map .str) + 1) (PyData.depthAll (r.map fun l => .list (l.map .str))) ≤ 1
    rw [depth_strs l]
    have := depth_lists r
    omega
theorem shaped_lists {ls : List (List Str)} (h : ∀ l ∈ ls, ∀ y ∈ l, okS y.cps.toList = true) : SeqAt.shaped (.list (ls.map fun l => .list (l.map .str))) = true :=
  shaped_lst (can_lists h) (by
    show PyData.depthAll (ls.map fun l => .list (l.map .str)) + 1 ≤ 64
    have := depth_lists ls
    omega)
theorem paired_refl {α : Type} {F : α → α → Prop} (h : ∀ a, F a a) : ∀ l : List α, Paired F l l
  | [] => .nil
  | a :: r => .cons (h a) (paired_refl h r)
theorem eqv_lists_same {K : PySem.W.Frag} {H : Hp} {p q : Addr} {xs : List Str} (h1 : H p = some (.lst (xs.map V.str))) (h2 : H q = some (.lst (xs.map V.str))) : EqV K H 2 (.ref p) (.ref q) :=
  .inr (.inr (.inl ⟨p, q, _, _, rfl, rfl, sq_of h1, sq_of h2, Paired.maps xs fun a _ => .inl ⟨rfl, rfl⟩⟩))
end Kn

/-! Kh: == of tuples that hold lists and dicts, list.remove of texts, max with a default. -/
namespace PySem.SeqAt
open PySem PySem.Builtin
section
variable {prog : Program} {w : World}
/-- two tuples of the same length whose items are equal, pair by pair -/
theorem kh_tupEq (p q : Addr) (xs ys : Array Value) (m m2 : Nat) (dp dq : Option Addr) (sp sq : Array (Option Value)) (hlen : xs.size = ys.size) :
    MeetsIn prog w (Builtin.«tuple.__eq__» ⟨[.ref p, .ref q], []⟩) (fun A R s => s.heap.get? p = some { cls := .type "tuple", dict := dp, data := .seq xs m, slots := sp } ∧
      s.heap.get? q = some { cls := .type "tuple", dict := dq, data := .seq ys m2, slots := sq } ∧ (∀ (j : Nat) (hx : j < xs.size) (hy : j < ys.size), EqP prog w A.in1 s xs[j] ys[j] true) ∧ R (.ok (.ret (.bool true))) s) := by
  intro A R s h
  obtain ⟨hp, g, d, tk, os⟩ := s
  obtain ⟨h1, h2, he, hR⟩ := h
  have f2 := AutoSeq1.sub_tuple_tuple
  have hz : (xs.toList.zip ys.toList).length = xs.size := by simp [hlen]
  wp_walk using wpAny_loadPart' h1, wpAny_loadPart' h2, wpAny_forIn_list _ (fun rest b s' => b.1 = none ∧ s' = ⟨hp, g, d, tk, os⟩ ∧ ∃ i, rest = (xs.toList.zip ys.toList).drop i) _
  case turn =>
    rintro ⟨v, u⟩ rest b s' ⟨hb', rfl, i, hd⟩
    have hi : i < (xs.toList.zip ys.toList).length := by
      rcases Nat.lt_or_ge i (xs.toList.zip ys.toList).length with c | c
      · exact c
      · rw [List.drop_of_length_le c] at hd
        cases hd
    have hx : i < xs.size := hz ▸ hi
    have hy : i < ys.size := hlen ▸ hx
    rw [List.drop_eq_getElem_cons hi] at hd
    injection hd with e1 e2
    have ev : v = xs[i] := by
      have := congrArg Prod.fst e1
      simpa using this
    have eu : u = ys[i] := by
      have := congrArg Prod.snd e1
      simpa using this
    subst ev eu
    refine wpAny_bind (he i hx hy _ _ ?_)
    wp_walk
    exact ⟨rfl, rfl, i + 1, e2⟩
  case fin =>
    rintro ⟨b1, b2⟩ s' ⟨hb', rfl, i, hd⟩
    simp only at hb'
    subst hb'
    wp_walk
    simpa [Builtin.Tuple.tupleCompareSizes, hlen] using hR
  case h => exact ⟨rfl, rfl, 0, rfl⟩
end
end PySem.SeqAt
namespace Kn
open PySem PySem.Spec PyProof.Rows L2 Evl SX
/-- equal, of nesting below n, with tuples -/
def EqW (K : PySem.W.Frag) (H : Hp) : Nat → V → V → Prop
  | 0 => fun _ _ => False
  | n + 1 => fun x y => (x = y ∧ flatB x = true) ∨ (∃ a, x = .ref a ∧ y = .ref a) ∨ EqR K H (EqW K H n) x y ∨ ∃ a b xs ys, x = .ref a ∧ y = .ref b ∧ SqT K H a xs ∧ SqT K H b ys ∧ Paired (EqW K H n) xs ys
section
variable {X : Cx} {pins : List (Addr × Obj)} {σ : L2.St} {H : Hp} {s : Shared}
theorem tupW_run (I : Inv X pins σ H s) {A : Around} {F : V → V → Prop} (hu : A.units < cLine) (ih : ∀ x y v u, F x y → RelV x v → RelV y u → SeqAt.EqP X.prog X.w A.in1 s v u true) {a b : Addr} {xs ys : List V} (ha : SqT X.K H a xs) (hb : SqT X.K H b ys) (hp : Paired F xs ys)
    (E Q : Value → Shared → Prop) (q : Q (.bool true) s) : wpAny (model X.prog X.w) A (richCompare .Eq (.ref a) (.ref b)) Q E s := by
  obtain ⟨us, r1, p1, _⟩ := I.tuple ha
  obtain ⟨ws, r2, p2, _⟩ := I.tuple hb
  obtain ⟨⟨cls, dd, data, sl⟩, ho, hc, n, hd⟩ := p1
  obtain ⟨⟨cls2, dd2, data2, sl2⟩, ho2, hc2, n2, hd2⟩ := p2
  simp only at hc hd hc2 hd2
  subst hc hd hc2 hd2
  have hlen : us.toArray.size = ws.toArray.size := by
    rw [List.size_toArray, List.size_toArray, ← r1.length, ← r2.length]
    exact Paired.length hp
  have ta : s.TypeIs (.ref a) "tuple" := ⟨_, ho, rfl⟩
  have tb : s.TypeIs (.ref b) "tuple" := ⟨_, ho2, rfl⟩
  refine wpAny_richCompare_same_room (op := .Eq) ta tb PySem.F.slot_tuple_eq (call_meetsIn PySem.F.slot_tuple_eq ta PySem.F.entry_tuple_eq (PySem.F.args_tuple_eq_2 _ _) (SeqAt.kh_tupEq a b us.toArray ws.toArray n n2 dd dd2 sl sl2 hlen) ⟨ho, ho2, fun j h1 h2 => ?_, ?_⟩) hu
  · have k := items_run ih hp r1 r2 j (by simpa using h1) (by simpa using h2)
    simpa using k
  · exact ⟨(fun x => nomatch x), q⟩
theorem eqW_run (I : Inv X pins σ H s) : ∀ (n : Nat) (A : Around), A.units + n < cLine → ∀ (x y : V) (v u : Value), EqW X.K H n x y → RelV x v → RelV y u → SeqAt.EqP X.prog X.w A s v u true
  | 0, _, _, _, _, _, _, h, _, _ => (show False from h).elim
  | n + 1, A, hu, x, y, v, u, h, rx, ry => by
    have ih := eqW_run I n A.in1 (by show A.units + 1 + n < cLine; omega)
    rcases h with ⟨rfl, f⟩ | ⟨a, rfl, rfl⟩ | h | ⟨a, b, xs, ys, rfl, rfl, ha, hb, hp⟩
    · exact (eqAt_same rx ry f).eqP
    · cases (show v = Value.ref a from rx)
      cases (show u = Value.ref a from ry)
      exact (SeqAt.EqAt.same _).eqP
    · have step := eqR_run I (A := A) (by omega) ih h rx ry
      obtain ⟨a, b, rfl, rfl⟩ : ∃ a b, x = .ref a ∧ y = .ref b := by
        rcases h with ⟨a, b, _, _, e1, e2, _⟩ | ⟨a, b, _, _, e1, e2, _⟩
        · exact ⟨a, b, e1, e2⟩
        · exact ⟨a, b, e1, e2⟩
      cases (show v = Value.ref a from rx)
      cases (show u = Value.ref b from ry)
      by_cases e : a = b
      · subst e
        exact (SeqAt.EqAt.same _).eqP
      · exact SeqAt.eqP_refs e step
    · cases (show v = Value.ref a from rx)
      cases (show u = Value.ref b from ry)
      by_cases e : a = b
      · subst e
        exact (SeqAt.EqAt.same _).eqP
      · exact SeqAt.eqP_refs e (tupW_run I (by omega) ih ha hb hp)
end
/-- a == b of tuples that hold lists, dicts, tuples: equal -/
def rEqW (K : PySem.W.Frag) : R2 := fun x y H Q => ∃ n a b xs ys, n ≤ 60 ∧ x = .ref a ∧ y = .ref b ∧ SqT K H a xs ∧ SqT K H b ys ∧ Paired (EqW K H n) xs ys ∧ Q (.bl true) H
theorem op_eqW {X : Cx} (hu : X.A.units + 64 < cLine) : OpR X (compareOp .Eq) (rEqW X.K) := by
  intro pins s σ H x y v u Q I rx ry h
  obtain ⟨n, a, b, xs, ys, hn, rfl, rfl, ha, hb, hp, q⟩ := h
  cases (show v = Value.ref a from rx)
  cases (show u = Value.ref b from ry)
  exact tupW_run I (A := X.A) (by omega) (eqW_run I n X.A.in1 (by show X.A.units + 1 + n < cLine; omega)) ha hb hp _ _ ⟨.bl true, H, I, rfl, q⟩
end Kn
namespace Kn
open PySem PySem.Spec PyProof.Rows L2 Evl SX
/-! ### list.remove of texts -/
theorem strS_at {vs : List Value} {ns : List Str} (h : StrsAre vs ns) {i : Nat} {x : Str} (hx : ns[i]? = some x) : ∃ t, vs[i]? = some (.str x t) := h.get i x hx
theorem erase_mapS : ∀ (l : List Str) (j : Nat), (l.map V.str).eraseIdx j = (l.eraseIdx j).map V.str
  | [], j => by simp
  | a :: r, 0 => by simp
  | a :: r, j + 1 => by
    have := erase_mapS r j
    simp [this]
def rRemS : V → List V → Hp → VK → Prop := fun x xs H Q => ∃ (l : Addr) (ns : List Str) (k : Str) (j : Nat), x = .ref l ∧ xs = [.str k] ∧ H l = some (.lst (ns.map V.str)) ∧ ns[j]? = some k ∧ (∀ m : Nat, m < j → ns[m]? ≠ some k) ∧ Q .non (L2.upd H l (.lst ((ns.eraseIdx j).map V.str)))
theorem mt_removeS {X : Cx} : MtM X "list.remove" rRemS := by
  intro pins s σ H x xs v us Q I rx rxs h
  obtain ⟨l, ns, k, j, rfl, rfl, hH, hj, hno, q⟩ := h
  cases rx
  obtain ⟨u, rfl, ru⟩ := rxs.one
  obtain ⟨t, rfl⟩ := ru
  obtain ⟨z, its, n, r, hl, e⟩ := I.lstM hH
  have hi := Vals.strs r
  rw [List.length_map] at hl z
  have hjn : j < ns.length := (List.getElem?_eq_some_iff.mp hj).1
  have hjl : j < its.toArray.size := by rw [List.size_toArray]; omega
  have at' : ∀ {m : Nat} {y : Str} (hm : m < its.toArray.size), ns[m]? = some y → isStrOf k its.toArray[m] = (y == k) := fun {m y} hm hy => by
    obtain ⟨tm, hmt⟩ := hi.get m y hy
    obtain ⟨h1, h2⟩ := List.getElem?_eq_some_iff.mp hmt
    have e1 : its.toArray[m] = .str y tm := by simpa using h2
    rw [e1]
    rfl
  refine call_meets PySem.F.slot_list_remove ⟨_, e, rfl⟩ PySem.F.entry_list_remove (PySem.F.args_list_remove_2 _ _)
    (MeetsSeq.list_remove l its.toArray n (.str k t) (isStrOf k) (fun y hy => eq_isStrOf k t hi y (by simpa using hy)) j hjl ?_ ?_ (by rw [List.size_toArray]; omega)) ⟨e, ?_⟩
  · rw [at' hjl hj]
    exact beq_self_eq_true k
  · intro m hm hmj
    have hmn : m < ns.length := by omega
    rw [at' hm (List.getElem?_eq_getElem hmn)]
    exact beq_eq_false_iff_ne.mpr fun e2 => hno m hmj (by rw [List.getElem?_eq_getElem hmn, e2])
  · have rr := r.eraseIdx j
    rw [erase_mapS] at rr
    refine ⟨.non, _, I.lset (its' := its.eraseIdx j) (t' := s.toks) hH e ?_ rr ?_, rfl, q⟩
    · show its.toArray.eraseIdxIfInBounds j = (its.eraseIdx j).toArray
      rw [List.eraseIdxIfInBounds_toArray]
    · have z2 : (ns.eraseIdx j).length ≤ ns.length := List.length_eraseIdx_le ..
      rw [List.length_map]
      omega
end Kn
namespace Kn
open PySem PySem.Spec PyProof.Rows L2 Evl SX
/-! ### max(.., default=i) of ints -/
theorem dp_ints {K : PySem.W.Frag} {H : Hp} : ∀ ns : List Int, DpAll K H (ns.map V.int) (ns.map .int)
  | [] => .nil
  | n :: r => .cons (.int n) (dp_ints r)
theorem depth_intsD : ∀ ns : List Int, PyData.depthAll (ns.map .int) = 0
  | [] => rfl
  | n :: r => by
    show max 0 (PyData.depthAll (r.map .int)) = 0
    rw [depth_intsD r]
    rfl
def maxF (i : Int) : List Int → Int
  | [] => i
  | y :: r => r.foldl max y
def rMaxDf (K : PySem.W.Frag) : List V → List V → Hp → VK → Prop := fun vs zs H Q => ∃ (a : Addr) (ns : List Int) (i : Int), vs = [V.ref a] ∧ zs = [.int i] ∧ SqL K H a (ns.map V.int) ∧ Q (.int (maxF i ns)) H
theorem cr_maxDf {X : Cx} (hc : X.calm = true) (hu : X.A.units + 64 < cLine) : CallRK X (.builtin "max") [Str.ofString "default"] (rMaxDf X.K) := by
  intro pins s σ H vs zs us ws Q I r rz h
  obtain ⟨a, ns, i, rfl, rfl, hs, q⟩ := h
  obtain rfl := Vals.ref1 r
  obtain ⟨w1, rfl, e1⟩ := vals1 rz
  obtain ⟨t, rfl⟩ := e1
  obtain ⟨its, rv, hl, _⟩ := I.list hs
  obtain ⟨as, hr⟩ := Dp.readsAll I (ns.map .int) (ns.map V.int) its (dp_ints ns) rv
  refine PySem.W.max_list_default (I.ok.hd hc) hl.isList (by simpa using hr) ⟨fun x hx y hy => ?_, fun x hx => ?_⟩ (by rw [depth_intsD]; omega) (fun h0 h' tk hk => ?_) (fun y ys j v h' tk bs hys hv hrd hk => ?_)
  · obtain ⟨m, _, rfl⟩ := List.mem_map.mp hx
    obtain ⟨n, _, rfl⟩ := List.mem_map.mp hy
    rfl
  · obtain ⟨m, _, rfl⟩ := List.mem_map.mp hx
    exact fun z => nomatch z
  · have hns : ns = [] := List.map_eq_nil_iff.mp h0
    subst hns
    exact ⟨.int i, H, I.kept hk, ⟨t, rfl⟩, q⟩
  · cases ns with
    | nil => cases hys
    | cons m rr =>
      have h1 : PyData.int m = y := (List.cons.inj hys).1
      have h2 : rr.map PyData.int = ys := (List.cons.inj hys).2
      subst h1 h2
      rw [PySem.W.maxD_ints] at hrd
      obtain ⟨t', rfl, _⟩ := reads_int_inv hrd
      exact ⟨.int _, H, I.kept hk, ⟨t', rfl⟩, q⟩
end Kn
namespace Kn
open PySem PySem.Spec PyProof.Rows L2 Evl SX
/-! ### an own error with a list for a field: self.f = list(xs) -/
section
variable {K : PySem.W.Frag} {σ : L2.St} {H H1 H' : Hp} {te : TE} {D : Ends} {a C p : Addr} {xs : List V} {f : Str}
def sp_I1L (f : Str) (K : PySem.W.Frag) : Sp := fun vs H Q _ => ∃ (a C p : Addr) (xs : List V), vs = [.ref a, .ref p] ∧ SqL K H p xs ∧ H a = some (exo a C none) ∧ OexC K C ∧ PySem.W.findIn K (.ref C) f = some none ∧
  ∀ r dx H', H r = none → H dx = none → dx ≠ a → r ≠ a → r ≠ dx → H' r = some (.lst xs) → XMade H H' a C dx [(f, .ref r)] → Q .non H'
theorem raise1L {W : WX} (oe : OexC K C) (nf : PySem.W.findIn K (.ref C) f = some none) (hv : Ev te σ H (.ref p)) (hp : SqL K H p xs)
    (hk : ∀ d r H', Ex H H' → H' d = some (.xd [(f, .ref r)]) → H' r = some (.lst xs) → W (.ref C) (some d) σ H') : tMkO C (sp_I1L f K) [] (tCons te tNil) σ H (fun cls d H' => W cls d σ H') :=
  hv H (Ex.refl _) _ fun H2 e2 => ⟨(by show 1 ≤ 1000; decide), fun a na => ⟨a, C, p, xs, rfl, ex_l (e2.trans (Ex.new na)) hp, upd_same, oe, nf, fun r dx H' hr hdx ne hra hrd hrl m =>
    ⟨rfl, dx, _, m.1, m.2.1, upd_none hdx, hk dx r _ (fun b o hb => by
      have h2 := e2 _ _ hb
      have n1 := ne_of_none h2 (upd_none hdx)
      have n2 := ne_of_none h2 na
      rw [upd_ne n1, del_ne n2]
      exact m.2.2 b o n2 n1 (by rw [upd_ne n2]; exact h2)) upd_same (by rw [upd_ne hrd, del_ne hra]; exact hrl)⟩⟩⟩
theorem init1L_body {m : List Nat} {tj : TE} (hj : Ev tj [some (.ref a), some (.ref p)] H (.str (S m))) (hp : SqL K H p xs) (ha : H a = some (exo a C none)) (oe : OexC K C) (nf : PySem.W.findIn K (.ref C) f = some none)
    (q : ∀ r dx H', H r = none → H dx = none → dx ≠ a → r ≠ a → r ≠ dx → H' r = some (.lst xs) → XMade H H' a C dx [(f, .ref r)] → D.nx [some (.ref a), some (.ref p)] H') :
    tSeq (tDrop (tVeI K (tCons (tVar 0) (tCons tj tNil)))) (tOst K f (tVar 0) (tCB (rListS K) (tCons (tVar 1) tNil))) D [some (.ref a), some (.ref p)] H := by
  refine q_beinit (ev_var rfl) hj oe ha fun H1 e1 => ?_
  refine el_list (ev_var rfl) (ex_l e1 hp) H1 (Ex.refl H1) _ fun r H2 hr e2 hrl => ?_
  refine ⟨_, rfl, a, C, rfl, oe, nf, .inl ⟨(e1.trans e2) _ _ ha, fun dx hd ne => ?_⟩⟩
  have hra : r ≠ a := fun z => by rw [z, e1 _ _ ha] at hr; cases hr
  have hrd : r ≠ dx := fun z => by rw [z, hd] at hrl; cases hrl
  exact q r dx _ (fresh_back e1 hr) (fresh_back (e1.trans e2) hd) ne hra hrd (by rw [upd_ne hra, upd_ne hrd]; exact hrl) (xmade_new (e1.trans e2) ne)
end
/-- raised: a new error with a new list in its field -/
def RzL (H : Hp) (E : XK) (C : Addr) (f : Str) (xs : List V) : Prop := ∀ d r H', Ex H H' → H' d = some (.xd [(f, .ref r)]) → H' r = some (.lst xs) → E (.ref C) (some d) H'
/-- names.index(x) -/
theorem mt_indexK {X : Cx} {K : PySem.W.Frag} (h : X.K = K) : MtR X "list.index" (rIndex K) := by subst h; exact mt_index
end Kn
namespace Kn
open PySem PySem.Spec PyProof.Rows L2 Evl SX
theorem pe_indexK {X : Cx} {K : PySem.W.Frag} {o e : Expr} {es : List Expr} {to : TE} {t : TA} {apos cpos : Pos} (hK : X.K = K) (ho : PE X o to) (ha : PA X (e :: es) t)
    (h1 : attributeBase o (Str.ofString "index") X.env (eval o X.env) = eval o X.env := by rfl)
    (h2 : ((backTo cpos (starEach (e :: es) X.env)).all (fun x => !x.1) && (backToKw cpos (keywordEach [] X.env)).all (fun x => x.1.isSome)
      && decide ((e :: es).length + ([] : List Keyword).length + (if ([] : List Keyword).isEmpty then 0 else 1) < 30)) = true := by rfl)
    (h3 : (apos.endLine == cpos.line) = true := by rfl) (h4 : starEach (e :: es) X.env = (false, eval e X.env) :: starEach es X.env := by rfl) (h5 : (backTo cpos (starEach es X.env)).any (·.1) = false := by rfl) :
    PE X (.Call (.Attribute o "index" apos) (e :: es) [] cpos) (tBM K "list" (rIndex K) to t) := by
  subst hK
  exact pe_bm PySem.F.plainAttrs_list PySem.F.slot_list_index PySem.F.type_list_index mt_index ho ha h1 h2 h3 h4 h5
end Kn
namespace Kn
open PySem PySem.Spec PyProof.Rows L2 Evl SX
theorem firstS : ∀ {ns : List Str} {k : Str}, k ∈ ns → ∃ j, ns[j]? = some k ∧ (∀ m, m < j → ns[m]? ≠ some k) ∧ ns.eraseIdx j = ns.erase k
  | [], k, h => nomatch h
  | a :: r, k, h => by
    by_cases e : a = k
    · refine ⟨0, by rw [e]; rfl, fun m hm => absurd hm (Nat.not_lt_zero _), ?_⟩
      subst e
      rw [List.erase_cons_head]
      rfl
    · obtain ⟨j, h1, h2, h3⟩ := firstS ((List.mem_cons.mp h).resolve_left fun z => e z.symm)
      refine ⟨j + 1, h1, fun m hm => ?_, ?_⟩
      · cases m with
        | zero => exact fun z => e (Option.some.inj z)
        | succ m => exact h2 m (Nat.lt_of_succ_lt_succ hm)
      · rw [List.erase_cons_tail (by simpa using e), ← h3]
        rfl
section
variable {K : PySem.W.Frag} {σ : L2.St} {H : Hp} {ta te : TE} {D : Ends} {tz : TS} {l : Addr} {ns : List Str} {k : Str}
theorem s_removeS (hl : H l = some (.lst (ns.map V.str))) (ha : Ev ta σ H (.ref l)) (he : Ev te σ H (.str k)) (hk : k ∈ ns) (q : ∀ H1, Ex H H1 → D.nx σ (L2.upd H1 l (.lst ((ns.erase k).map V.str)))) :
    tDrop (tBM K "list" rRemS ta (tCons te tNil)) D σ H := by
  obtain ⟨j, h1, h2, h3⟩ := firstS hk
  refine ha H (Ex.refl H) _ fun H1 e1 => ⟨Or.inl ⟨rfl, _, sq_of (e1 l _ hl)⟩, he H1 e1 _ fun H2 e2 => ⟨l, ns, k, j, rfl, rfl, e2 l _ (e1 l _ hl), h1, h2, ?_⟩⟩
  rw [h3]
  exact q H2 (e1.trans e2)
end
end Kn
namespace Kn
open PySem PySem.Spec PyProof.Rows L2 Evl SX
section
variable {K : PySem.W.Frag} {σ : L2.St} {H : Hp} {ta te tl : TE} {D : Ends} {tz tu : TS} {g : TG}
theorem ev_maxDf {ns : List Int} {i : Int} (h : EvL te σ H (ns.map V.int)) : Ev (tCKw (rMaxDf K) (tCons te tNil) (tCons (tC (.int i)) tNil)) σ H (.int (maxF i ns)) := fun H1 e Q q =>
  h H1 e _ fun p H2 _ e2 hp => ⟨p, ns, i, rfl, rfl, sq_of hp, q H2 e2⟩
theorem q_forFirst (h : tl σ H fun v H1 => tSeq (tFor (iList K (tC v)) g tu) tz D σ H1) : tSeq (tFor (iList K tl) g tu) tz D σ H := h
end
end Kn

/-! Kc: except (A, B) without a name; != of equal tuples that hold lists and dicts. -/
namespace Kn
open PySem PySem.Spec PyProof.Rows L2 Evl SX
/-- what the clause 'except (c1, c2)' wishes of an exception of the body -/
def wOnly2 (K : PySem.W.Frag) (c1 c2 : Value) (ts : Addr → Value → Option Addr → TS) (Wout : WX) (D : Ends) : WX := fun cls d σ H =>
  ∃ b, PySem.W.exmAny K cls [c1, c2] = some b ∧ (b = true → ∀ a, H a = none → ts a cls d D σ H) ∧ (b = false → Wout cls d σ H)
theorem flyingZ_keeps {base h h' : Heap} {l : List Env} {e : Addr} {Z : Obj → Prop} (x : HandSPX.FlyingZ base l e Z h) (k : ∀ b o, h.get? b = some o → h'.get? b = some o) : HandSPX.FlyingZ base l e Z h' := by
  obtain ⟨k1, k2, k3, oe, vs, T, oT, ts, h1, h2, h3, h4, h5, h6, h7, h8, h9⟩ := x
  exact ⟨fun b o z => k _ _ (k1 b o z), k2, Heap.FunFrames.of_keeps (fun b o e _ => ⟨o, k b o e, rfl⟩) k3, oe, vs, T, oT, ts, k _ _ h1, h2, h3, h4, h5, h6, k _ _ h7, h8, h9⟩
/-! the pieces of a try: what runs through, what the suite leaves, the test of a pair of classes, what goes on -/
section
variable {X : Cx} {pins : List (Addr × Obj)} {D : Ends}
theorem kc_spTry {xe : Value → Shared → Prop} (ok : X.Ok) : ∀ {f : Flow} {t : Shared}, SP (X.tr (X.pn ++ pins) xe) [] D f t → SP X pins D f t
  | .next, _, ⟨σ1, H1, J, q⟩ => ⟨σ1, H1, J.ofTry ok, q⟩
  | .brk, _, ⟨σ1, H1, J, q⟩ => ⟨σ1, H1, J.ofTry ok, q⟩
  | .cont, _, ⟨σ1, H1, J, q⟩ => ⟨σ1, H1, J.ofTry ok, q⟩
  | .ret _, _, ⟨v1, σ1, H1, J, r, q⟩ => ⟨v1, σ1, H1, J.ofTry ok, r, q⟩
theorem kc_spSuite {a : Addr} {p : Addr × Obj} (ok : X.Ok) : ∀ {f : Flow} {t : Shared}, SP (X.suite a (p :: (X.pn ++ pins))) [] D f t → SP X pins D f t
  | .next, _, ⟨σ1, H1, J, q⟩ => ⟨σ1, H1, J.unsuite ok, q⟩
  | .brk, _, ⟨σ1, H1, J, q⟩ => ⟨σ1, H1, J.unsuite ok, q⟩
  | .cont, _, ⟨σ1, H1, J, q⟩ => ⟨σ1, H1, J.unsuite ok, q⟩
  | .ret _, _, ⟨v1, σ1, H1, J, r, q⟩ => ⟨v1, σ1, H1, J.unsuite ok, r, q⟩
/-- the exception's object is no frame -/
theorem kc_apart {B h : Heap} {l : List Env} {a : Addr} {Z : Obj → Prop} (x : HandSPX.FlyingZ B l a Z h) : a ∉ frs l := fun hm => by
  obtain ⟨o1, vs1, h1, _, h2⟩ := x.there
  obtain ⟨_, o2, h3, h4⟩ := x.2.2.1.mem hm
  have e : o2 = o1 := Option.some.inj (h3.symm.trans h1)
  exact h4 vs1 (e ▸ h2)
/-- (A, B), evaluated -/
theorem kc_pair {x1 x2 : Str} {c1 c2 : Value} {np1 np2 tpos : Pos} {kk : Nat} {σ : L2.St} {H : Hp} {t : Shared} {Q E : Value → Shared → Prop} (I : Inv X pins σ H t) (hc1 : Names X x1 c1) (hc2 : Names X x2 c2)
    (q : Q (.ref t.heap.objs.size) { t with heap := t.heap.push { cls := .type "tuple", data := .seq [c1, c2].toArray } }) :
    wpAny (model X.prog X.w) X.A (eval (.Tuple [.Name x1 np1, .Name x2 np2] kk tpos) X.env) Q E t := by
  have one : ∀ {x : Str} {c : Value} {np : Pos} {Q1 : Value → Shared → Prop}, Names X x c → Q1 c t → wpAny (model X.prog X.w) X.A (eval (.Name x np) X.env) Q1 E t := fun {x c np Q1} hc h => by
    rcases hc with ⟨hg, hd, hm | ⟨hm, hv, hn⟩⟩
    · exact ld_glob I hg hm h hd
    · exact ld_blt I hg hm hv h hn hd
  exact wpAny_Tuple (PySem.wpAny_items_cons (one hc1 (PySem.wpAny_items_cons (one hc2 (PySem.wpAny_items_nil ⟨by size_fits, q⟩)))))
/-- no clause is left: the exception goes on -/
theorem kc_on {W : WX} {σ : L2.St} {H : Hp} {sI t : Shared} {B : Heap} {a : Addr} {cls : Value} {d : Option Addr} (hs : X.stack = X.env :: X.outer) (hf : X.env.frame = some X.env.locals) (tk : Takes X W) (J : Inv X pins σ H sI)
    (nb : ∀ b o, sI.heap.get? b = some o → b ∉ frs X.stack → B.get? b = some o) (up : sI.heap.UpToSlots t.heap) (fl : HandSPX.FlyingZ B (X.env :: X.outer) a (Zc cls d) t.heap) (na : H a = none) (os : t.os = sI.os) (ag : AllBare t.gens) (w : W cls d σ H) :
    wpAny (model X.prog X.w) X.A (handleBy (.ref a) X.env []) (SP X pins D) X.xe t := by
  have out : wpAny (model X.prog X.w) X.A (setFlight (.ref a) X.env.frame) (fun _ t1 => wpAny (model X.prog X.w) X.A (throw (.ref a) : Sem Flow) (SP X pins D) X.xe t1) X.xe t := by
    rw [hf]
    exact HandSPX.setFlight_upZ fl fun h1 held up1 => wpAny_throw (tk _ _ ⟨a, B, sI, pins, σ, H, cls, d, rfl, J, nb, up.trans up1, .inr (.inr (hs ▸ held)), na, os, ag, w⟩)
  obtain ⟨_, _, _, oe, vs, T, _, _, h1, _, h2, h3, _⟩ := id fl
  refine wpAny_handleBy_nil ?_
  unfold PySem.passOn
  refine wpAny_bind (wpAny_field h1 h2 h3 ?_)
  rw [if_neg (show ¬ (Value.ref T == Value.none) = true by simp)]
  first
    | exact wpAny_bind (wpAny_pure (wpAny_bind out))
    | exact wpAny_bind out
end
section
variable {X : Cx} {x1 x2 : Str} {c1 c2 : Value} {body suite : List Stmt} {b₀ : Stmt} {np1 np2 tpos pos pos' : Pos} {kk : Nat} {tb : WX → TS} {ts : Addr → Value → Option Addr → TS} {Wout : WX}
theorem ps_try_only2 (hs : X.stack = X.env :: X.outer) (hf : X.env.frame = some X.env.locals) (hc1 : Names X x1 c1) (hc2 : Names X x2 c2) (tk : Takes X Wout)
    (hb : ∀ (W : WX) (pn : List (Addr × Obj)) (xe : Value → Shared → Prop), Takes (X.tr pn xe) W → PassesOwn (model X.prog X.w) X.A X.env xe → PSs (X.tr pn xe) body (tb W))
    (hsu : ∀ (a : Addr) (oe : Obj) (cls : Value) (d : Option Addr) (pn : List (Addr × Obj)), Zc cls d oe → (∃ vs, oe.data = .fields vs) → PSs (X.suite a ((a, oe) :: pn)) (b₀ :: suite) (ts a cls d)) :
    PS X (.Try body [.ExceptHandler (some (.Tuple [.Name x1 np1, .Name x2 np2] kk tpos)) none (b₀ :: suite) pos'] [] [] pos) (fun D σ H => tb (wOnly2 X.K c1 c2 ts Wout D) D σ H) := by
  refine ⟨fun pins s σ H D I want => wpAny_Try_except ?_⟩
  have ok := I.ok
  have run := (hb (wOnly2 X.K c1 c2 ts Wout D) (X.pn ++ pins) (fun e t1 => wpAny (model X.prog X.w) X.A (noteFrame e X.env) (fun _ t2 => wpAny (model X.prog X.w) X.A (setFlight e none) (fun _ t3 =>
    wpAny (model X.prog X.w) X.A (handleBy e X.env [.ExceptHandler (some (.Tuple [.Name x1 np1, .Name x2 np2] kk tpos)) none (b₀ :: suite) pos']) (SP X pins D) X.xe t3) X.xe t2) X.xe t1) (fun u t xx => ?_) PassesOwn.looking).run [] s σ H D (I.toTry _) want
  · refine wpAny_mono run (fun f t h => ?_) fun _ _ h => h
    have z := kc_spTry ok h
    cases f with
    | next => exact wpAny_execs_nil z
    | brk => exact z
    | cont => exact z
    | ret u => exact z
  · obtain ⟨a, B, sI, pins', σ', H', cls, d, rfl, J', nb, up, sky, na, os, ag, b, hb1, hyes, hno⟩ := xx
    have J : Inv X pins σ' H' sI := J'.ofTry ok
    have sky' : Sky B (X.env :: X.outer) a (Zc cls d) X.env.locals t.heap := hs ▸ sky
    show wpAny (model X.prog X.w) X.A (noteFrame (.ref a) X.env) _ _ _
    refine Sky.land Zc.steady (by rw [ok.frames, hs]) hf sky' fun g0 fl0 up0 => ?_
    have apart := kc_apart fl0
    have nL : a ≠ X.env.locals := fun z => apart (List.mem_filterMap.mpr ⟨X.env, List.mem_cons_self, by rw [hf, z]⟩)
    have nF : a ∉ X.fs := fun hm => by
      obtain ⟨e, he, q⟩ := List.mem_filterMap.mp hm
      exact apart (List.mem_filterMap.mpr ⟨e, List.mem_cons_of_mem _ he, q⟩)
    -- whatever the heap is grown to, the suite may begin
    have S : ∀ {g : Heap} (fl : HandSPX.FlyingZ B (X.env :: X.outer) a (Zc cls d) g), t.heap.UpToSlots g → ∃ oe, Zc cls d oe ∧ (∃ vs, oe.data = .fields vs) ∧ g.get? a = some oe ∧ Inv (X.suite a ((a, oe) :: (X.pn ++ pins))) [] σ' H' { t with heap := g } := fun {g} fl upg => by
      obtain ⟨oe, vs, h1, h2, h3⟩ := fl.there
      have Jg : Inv X pins σ' H' { t with heap := g } := J.landed nb fl.1 (up.trans upg) os ag
      exact ⟨oe, h2, ⟨vs, h3⟩, h1, Jg.suite h1 h3 na nL nF⟩
    obtain ⟨oe0, hz0, _, he0, S0⟩ := S fl0 up0
    refine wpAny_handleBy_cons (codeAny_handlers_test ?_) (by intro q; cases q)
    refine kc_pair (X := X.suite a ((a, oe0) :: (X.pn ++ pins))) S0 hc1 hc2 ?_
    have LT0 : PySem.W.Looks (model X.prog X.w) g0 (typeOf (.ref a)) cls := fun A Q E t1 k q => wpAny_typeOf_ref (k _ _ he0) (by rw [hz0.1]; exact q)
    have kp : ∀ q o, g0.get? q = some o → (g0.push { cls := .type "tuple", data := .seq [c1, c2].toArray }).get? q = some o := fun _ _ z => Heap.get?_push_of_some _ z
    have fl1 := flyingZ_keeps fl0 kp
    have up1 := up0.trans (Heap.UpToSlots.of_keeps kp)
    have L := PySem.W.exm_tup2 (M := model X.prog X.w) ((S0.kIn).keeps kp) (LT0.keeps kp) (Heap.get?_push_size (o := ({ cls := .type "tuple", data := .seq [c1, c2].toArray } : Obj)) g0 rfl) hb1
    show wpAny _ _ (excMatches (.ref a) (.ref g0.objs.size)) _ _ { t with heap := g0.push { cls := .type "tuple", data := .seq [c1, c2].toArray } }
    generalize g0.push { cls := .type "tuple", data := .seq [c1, c2].toArray } = g1 at fl1 up1 L
    refine L.here ?_
    cases b with
    | false => exact kc_on (t := { t with heap := g1 }) hs hf tk J nb (up.trans up1) fl1 na os ag (hno rfl)
    | true =>
      refine codeAny_handlers_suite (HandSPX.lands_againZ fl1 fun g2 fl2 up2 => ?_)
      obtain ⟨oe2, hz2, hd2, _, S2⟩ := S fl2 (up1.trans up2)
      exact wpAny_mono ((hsu a oe2 cls d (X.pn ++ pins) hz2 hd2).run [] _ _ H' _ S2 (hyes rfl a na)) (fun f t1 h => kc_spSuite ok h) fun _ _ z => z.elim
end
end Kn
namespace PySem.SeqAt
open PySem PySem.Builtin
section
variable {prog : Program} {w : World}
/-- two tuples of the same length whose items are equal, pair by pair, are not unequal -/
theorem kc_tupNe (p q : Addr) (xs ys : Array Value) (m m2 : Nat) (dp dq : Option Addr) (sp sq : Array (Option Value)) (hlen : xs.size = ys.size) :
    MeetsIn prog w (Builtin.«tuple.__ne__» ⟨[.ref p, .ref q], []⟩) (fun A R s => s.heap.get? p = some { cls := .type "tuple", dict := dp, data := .seq xs m, slots := sp } ∧
      s.heap.get? q = some { cls := .type "tuple", dict := dq, data := .seq ys m2, slots := sq } ∧ (∀ (j : Nat) (hx : j < xs.size) (hy : j < ys.size), EqP prog w A.in1 s xs[j] ys[j] true) ∧ R (.ok (.ret (.bool false))) s) := by
  intro A R s h
  obtain ⟨hp, g, d, tk, os⟩ := s
  obtain ⟨h1, h2, he, hR⟩ := h
  have f2 := AutoSeq1.sub_tuple_tuple
  have hz : (xs.toList.zip ys.toList).length = xs.size := by simp [hlen]
  wp_walk using wpAny_loadPart' h1, wpAny_loadPart' h2, wpAny_forIn_list _ (fun rest b s' => b.1 = none ∧ s' = ⟨hp, g, d, tk, os⟩ ∧ ∃ i, rest = (xs.toList.zip ys.toList).drop i) _
  case turn =>
    rintro ⟨v, u⟩ rest b s' ⟨hb', rfl, i, hd⟩
    have hi : i < (xs.toList.zip ys.toList).length := by
      rcases Nat.lt_or_ge i (xs.toList.zip ys.toList).length with c | c
      · exact c
      · rw [List.drop_of_length_le c] at hd
        cases hd
    have hx : i < xs.size := hz ▸ hi
    have hy : i < ys.size := hlen ▸ hx
    rw [List.drop_eq_getElem_cons hi] at hd
    injection hd with e1 e2
    have ev : v = xs[i] := by
      have := congrArg Prod.fst e1
      simpa using this
    have eu : u = ys[i] := by
      have := congrArg Prod.snd e1
      simpa using this
    subst ev eu
    refine wpAny_bind (he i hx hy _ _ ?_)
    wp_walk
    exact ⟨rfl, rfl, i + 1, e2⟩
  case fin =>
    rintro ⟨b1, b2⟩ s' ⟨hb', rfl, i, hd⟩
    simp only at hb'
    subst hb'
    wp_walk
    simpa [Builtin.Tuple.tupleCompareSizes, hlen] using hR
  case h => exact ⟨rfl, rfl, 0, rfl⟩
end
end PySem.SeqAt
namespace Kn
open PySem PySem.Spec PyProof.Rows L2 Evl SX
section
variable {X : Cx} {pins : List (Addr × Obj)} {σ : L2.St} {H : Hp} {s : Shared}
theorem tupNW_run (I : Inv X pins σ H s) {A : Around} {F : V → V → Prop} (hu : A.units < cLine) (ih : ∀ x y v u, F x y → RelV x v → RelV y u → SeqAt.EqP X.prog X.w A.in1 s v u true) {a b : Addr} {xs ys : List V} (ha : SqT X.K H a xs) (hb : SqT X.K H b ys) (hp : Paired F xs ys)
    (E Q : Value → Shared → Prop) (q : Q (.bool false) s) : wpAny (model X.prog X.w) A (richCompare .NotEq (.ref a) (.ref b)) Q E s := by
  obtain ⟨us, r1, p1, _⟩ := I.tuple ha
  obtain ⟨ws, r2, p2, _⟩ := I.tuple hb
  obtain ⟨⟨cls, dd, data, sl⟩, ho, hc, n, hd⟩ := p1
  obtain ⟨⟨cls2, dd2, data2, sl2⟩, ho2, hc2, n2, hd2⟩ := p2
  simp only at hc hd hc2 hd2
  subst hc hd hc2 hd2
  have hlen : us.toArray.size = ws.toArray.size := by
    rw [List.size_toArray, List.size_toArray, ← r1.length, ← r2.length]
    exact Paired.length hp
  have ta : s.TypeIs (.ref a) "tuple" := ⟨_, ho, rfl⟩
  have tb : s.TypeIs (.ref b) "tuple" := ⟨_, ho2, rfl⟩
  refine wpAny_richCompare_same_room (op := .NotEq) ta tb PySem.F.slot_tuple_ne (call_meetsIn PySem.F.slot_tuple_ne ta PySem.F.entry_tuple_ne (PySem.F.args_tuple_ne_2 _ _) (SeqAt.kc_tupNe a b us.toArray ws.toArray n n2 dd dd2 sl sl2 hlen) ⟨ho, ho2, fun j h1 h2 => ?_, ?_⟩) hu
  · have k := items_run ih hp r1 r2 j (by simpa using h1) (by simpa using h2)
    simpa using k
  · exact ⟨(fun x => nomatch x), q⟩
end
/-- a != b of tuples that hold lists, dicts, tuples: equal -/
def rNeW (K : PySem.W.Frag) : R2 := fun x y H Q => ∃ n a b xs ys, n ≤ 60 ∧ x = .ref a ∧ y = .ref b ∧ SqT K H a xs ∧ SqT K H b ys ∧ Paired (EqW K H n) xs ys ∧ Q (.bl false) H
theorem op_neW {X : Cx} (hu : X.A.units + 64 < cLine) : OpR X (compareOp .NotEq) (rNeW X.K) := by
  intro pins s σ H x y v u Q I rx ry h
  obtain ⟨n, a, b, xs, ys, hn, rfl, rfl, ha, hb, hp, q⟩ := h
  cases (show v = Value.ref a from rx)
  cases (show u = Value.ref b from ry)
  exact tupNW_run I (A := X.A) (by omega) (eqW_run I n X.A.in1 (by show X.A.units + 1 + n < cLine; omega)) ha hb hp _ _ ⟨.bl false, H, I, rfl, q⟩
end Kn

/-! Kj: a comprehension whose element wants a token; sep.join of such a one. -/
namespace Kn
open PySem PySem.Spec PyProof.Rows L2 Evl SX
section
variable {X : Cx}
theorem keepF {α : Type} {t : Sem α} {Q : α → Shared → Prop} {M : Model} {A : Around} {s : Shared} (h0 : 1 ≤ s.toks) (h : wpAny M A t Q (fun _ _ => False) s) : wpAny M A t (fun a s' => 1 ≤ s'.toks ∧ Q a s') (fun _ _ => False) s :=
  wpAny_mono (PySem.wpAny_toks h) (fun _ _ q => ⟨Nat.le_trans h0 q.1, q.2⟩) fun _ _ z => z.2
/-- what stands between the turns of a block: the iterator's objects untracked, the wish for the turn, a token out -/
def Blk1 (Y : Cx) (σ : L2.St) (fp : List Addr) (tn : Nat → Heap → Prop) (W : Nat → Nat → Hp → Prop) (n : Nat) (t : Shared) : Prop :=
  1 ≤ t.toks ∧ ∃ i H, Inv Y [] σ H t ∧ tn i t.heap ∧ (∀ b ∈ fp, H b = none) ∧ W i n H
/-- the loop of a block, each element with a token out -/
theorem blk_loop {Y : Cx} {elt tg iter : Expr} {ifs : List Expr} {scope : Scope} {pos : Pos} {g : TG} {tt : TT} {te : TE} {vs : List Nat} {fp : List Addr} {tn : Nat → Heap → Prop} {J : It} {it D : Addr} {σ : L2.St} {W : Nat → Nat → Hp → Prop} {Qd : Hp → Prop} {R : Result → Shared → Prop} {s : Shared} {m0 : Nat}
    (hc : Y.calm = true) (hx : Y.xe = fun _ _ => False) (hp : Y.pn = []) (hex : Y.ex = fp) (T : Turn Y.prog Y.w Y.K tg J fp it tn) (pg : PG Y tg g) (pt : PTs Y ifs tt) (pe : L2.PET Y elt te)
    (turn : ∀ i m H, W i m H → (J.stop i H ∧ Qd H) ∨ (J.go i H ∧ ∃ Nx : Hp → Prop, (∀ H', Nx H' → ∃ m', m' < m ∧ W (i + 1) m' H') ∧ ∀ x H', J.yld i H x H' → g x (wipe σ vs) H' fun σ2 H2 => wipe σ2 vs = wipe σ vs ∧ tt σ2 H2 fun b H3 =>
      if b = true then te σ2 H3 fun y H4 => ∃ acc, H4 D = some (.lst acc) ∧ acc.length < sizeLine ∧ Nx (L2.upd H4 D (.lst (acc ++ [y]))) else Nx H3))
    (fin : ∀ t H, Inv Y [] (wipe σ vs) H t → Qd H → R (.ok .next) t) (h0 : Blk1 Y (wipe σ vs) fp tn W m0 s) :
    codeAny (model Y.prog Y.w) Y.A (.compLoop (.ListComp elt [⟨tg, iter, ifs, 0⟩] scope pos) 0 (.ref it) (.ref D) Y.env) R s := by
  have still : ∀ {σ1 : L2.St} {H1 : Hp} {t : Shared}, Inv Y [] σ1 H1 t → (∀ b ∈ fp, H1 b = none) → ∀ b ∈ fp, FpOk Y [] H1 b := fun {σ1 H1 t} I hn b hb => by
    have hb' : b ∈ Y.ex := hex ▸ hb
    refine ⟨hn b hb, (I.ok.exf b hb').1, I.ok.exfs b hb', .inl hb', fun x c e => (I.ok.exf b hb').2 x c e, fun p h => ?_⟩
    rw [hp] at h
    cases h
  have run : ∀ {α : Type} {t : Sem α} {Q Q' : α → Shared → Prop} {E : Value → Shared → Prop} {t0 : Shared}, wpAny (model Y.prog Y.w) Y.A t Q Y.xe t0 → (∀ a u, Q a u → Q' a u) → wpAny (model Y.prog Y.w) Y.A t Q' E t0 := fun {α t Q Q' E t0} h k => wpAny_mono h k fun _ _ z => by
    rw [hx] at z
    exact z.elim
  refine compLoop_any (Blk1 Y (wipe σ vs) fp tn W) ?_ m0 h0
  rintro n t ⟨k0, i, H, I, st, hn, w⟩
  rcases turn i n H w with ⟨stop, qd⟩ | ⟨go, Nx, hNx, step⟩
  · exact thnF (T.done Y rfl rfl rfl hc i [] t _ H (fun _ _ => False) I (still I hn) st stop) fun r t1 ⟨hr, I1⟩ => by
      subst hr
      exact fin t1 H I1 qd
  refine thnF (keepF k0 (T.item Y rfl rfl rfl hc i [] t _ H (fun _ _ => False) I (still I hn) st go)) fun r t1 ⟨k1, u, hr, h1⟩ => ?_
  subst hr
  refine thnF (keepF k1 h1) fun _ t2 ⟨k2, x, H2, I2, r2, y2, st2, n2⟩ => ?_
  have P2 := I2.pinned (still I2 n2) (T.obj _ _ st2)
  have up : ∀ {α : Type} {c : Sem α} {Q : α → Shared → Prop} {t0 : Shared}, 1 ≤ t0.toks → wpAny (model Y.prog Y.w) Y.A c Q Y.xe t0 → wpAny (model Y.prog Y.w) Y.A c (fun a t' => 1 ≤ t'.toks ∧ Q a t') Y.xe t0 := fun {α c Q t0} hk h =>
    wpAny_mono (PySem.wpAny_toks h) (fun _ _ q => ⟨Nat.le_trans hk q.1, q.2⟩) fun _ _ z => z.2
  refine run (up k2 (pg.run _ t2 _ H2 x u _ P2 r2 (step x H2 y2))) fun _ t3 ⟨k3, σ3, H3, I3, hw3, q3⟩ => ?_
  refine run (up k3 (pt.run _ t3 σ3 H3 _ I3 q3)) fun b t4 ⟨k4, H4, I4, q4⟩ => ?_
  have next : ∀ {t' : Shared} {H' : Hp}, 1 ≤ t'.toks → Inv Y ([] ++ pinsAt fp t2.heap) σ3 H' t' → Nx H' → ∃ m, m < n ∧ Blk1 Y (wipe σ vs) fp tn W m t' := fun {t' H'} k' I' nx => by
    obtain ⟨m, hm, w'⟩ := hNx H' nx
    have pinned : ∀ b ∈ fp, ∀ o, t2.heap.get? b = some o → t'.heap.get? b = some o ∧ H' b = none := fun b hb o e => by
      have z := I'.pin (b, o) (List.mem_append_right _ (List.mem_append_right _ (mem_pinsAt hb e)))
      exact ⟨z.1, z.2.1⟩
    refine ⟨m, hm, k', i + 1, H', (I'.unpinned (pins := [])).weak (by rw [← hw3, wipe_length]) (fun j v e => (wipe_some (hw3 ▸ e)).1), T.keep _ _ _ st2 (fun b hb o e => (pinned b hb o e).1), fun b hb => ?_, w'⟩
    obtain ⟨o, e, _⟩ := T.obj _ _ st2 b hb
    exact (pinned b hb o e).2
  cases b with
  | false =>
    rw [if_neg Bool.false_ne_true] at q4 ⊢
    exact next k4 I4 q4
  | true =>
    rw [if_pos rfl] at q4 ⊢
    refine run (up k4 (pe _ t4 σ3 H4 _ k4 I4 q4)) fun z t5 ⟨k5, yv, H5, I5, r5, acc, hD, hz, nx⟩ => ?_
    have ap : wpAny (model Y.prog Y.w) Y.A (call (.builtin "list.append") [.ref D, z]) (fun _ t' => Inv Y ([] ++ pinsAt fp t2.heap) σ3 (L2.upd H5 D (.lst (acc ++ [yv]))) t') Y.xe t5 := app_ok I5 hD hz r5 fun t6 I6 => I6
    exact run (up k5 ap) fun _ t6 ⟨k6, I6⟩ => next k6 I6 nx
/-- [elt for target in iter if ..] as a value, where the element wants a token and one is out -/
theorem pet_lc {elt tg iter : Expr} {ifs : List Expr} {scope : Scope} {own : List (Str × Nat)} {pos : Pos} {wi : TI} {g : TG} {tt : TT} {te : TE} (hc : X.calm = true) (hN : X.N.Nodup) (hi : PI X tg iter wi) (ok : BlkOk X.N X.env.scope scope own)
    (hg : ∀ (s : Shared) (H : Hp) (C : Addr) (cl : List (Str × Addr)) (fp : List Addr), PG (X.blk s H scope (compEnvC scope cl C X.env) fp) tg g) (ht : ∀ (s : Shared) (H : Hp) (C : Addr) (cl : List (Str × Addr)) (fp : List Addr), PTs (X.blk s H scope (compEnvC scope cl C X.env) fp) ifs tt)
    (he : ∀ (s : Shared) (H : Hp) (C : Addr) (cl : List (Str × Addr)) (fp : List Addr), L2.PET (X.blk s H scope (compEnvC scope cl C X.env) fp) elt te) (hs : ∀ x, foldedSetIterable iter X.env x = pure x := by intro _; rfl) :
    L2.PET X (.ListComp elt [⟨tg, iter, ifs, 0⟩] scope pos) (tLc wi g tt te (own.map (·.2))) := by
  intro pins s σ H Q h0 I h
  rw [eval_ListComp]
  have open_ : ∀ y ∈ scope.names, y.2 = .free → ∃ c, X.env.cells.lookup y.1 = some c := fun y hy e => (ok.free y hy e).elim (fun k => I.ok.has _ (.inl k)) fun k => I.ok.has _ (.inr k)
  have first := wpAny_mono (PySem.wpAny_toks (hi.run pins s σ H _ I h)) (fun v t (q : _ ∧ _) => PySem.wpAny_toks_of q.1 q.2) (fun e t q => q.2)
  refine wpAny_comprehension_free (use := none) rfl hs (closure_ok open_) ok.kind (fun y hy e => by rw [ok.uniq y hy, e]) (wpAny_mono first (fun v t1 h1 => wpAny_mono h1 (fun itv t2 h2 => ?_) fun _ _ z => z.2) fun _ _ z => z)
  obtain ⟨k2, it, fp, tn, J, H2, rfl, I2, T, st2, f2, q⟩ := h2
  have hk2 : 1 ≤ t2.toks := Nat.le_trans h0 k2
  refine wpAny_newObj_type (newEnv_comp ?_) (by show 0 ≤ sizeLine; decide)
  have nD : H2 t2.heap.objs.size = none := I2.hok.fresh (Nat.le_refl _)
  obtain ⟨W, ⟨m0, w0⟩, turn⟩ := q _ nD
  have lt2 : ∀ b ∈ fp, b < t2.heap.objs.size := fun b hb => by
    obtain ⟨o, e, _⟩ := T.obj _ _ st2 b hb
    exact Heap.lt_size e
  generalize hD : t2.heap.objs.size = D at nD w0 turn lt2
  generalize h3 : ({ t2 with heap := t2.heap.push { cls := .type "list", data := .seq ([] : List Value).toArray } } : Shared) = t3
  have p3 : t3.heap = t2.heap.push { cls := .type "list", data := .seq ([] : List Value).toArray } := by rw [← h3]
  have k3 : 1 ≤ t3.toks := by rw [← h3]; exact hk2
  have I3 : Inv X pins σ (L2.upd H2 D (.lst [])) t3 := by
    rw [← h3]
    refine I2.laid (t' := t2.toks) (fun b o e => Heap.get?_push_of_some _ e) (Nat.le_of_eq hD) ⟨Nat.zero_le _, [], 0, .nil, ?_⟩
    rw [← hD]
    exact Heap.get?_push_size _ rfl
  have f3 : ∀ b ∈ fp, FpOk X pins (L2.upd H2 D (.lst [])) b ∧ b < t3.heap.objs.size := fun b hb => by
    have lt := lt2 b hb
    exact ⟨⟨by rw [upd_ne (Nat.ne_of_lt lt)]; exact (f2 b hb).1, (f2 b hb).2⟩, by rw [p3, Heap.size_push, hD]; exact Nat.lt_succ_of_lt lt⟩
  have I4 := block_start I3 ok hN f3
  show codeAny _ _ (.compStart (.ListComp elt [⟨tg, iter, ifs, 0⟩] scope pos) 0 (.ref it) (.ref D) (compEnvC scope (cellsFrom (t3.heap.objs.size + 1) scope.names (cloFrom X.env.cells scope.names [])) t3.heap.objs.size X.env)) (compPost (model X.prog X.w) X.A X.xe none _ (.ref D) t3.heap.objs.size) { t3 with heap := pushCells (t3.heap.push { cls := .type "dict", data := .dict #[] }) scope.names }
  have pg := hg t3 (L2.upd H2 D (.lst [])) t3.heap.objs.size (cellsFrom (t3.heap.objs.size + 1) scope.names (cloFrom X.env.cells scope.names [])) fp
  have pt := ht t3 (L2.upd H2 D (.lst [])) t3.heap.objs.size (cellsFrom (t3.heap.objs.size + 1) scope.names (cloFrom X.env.cells scope.names [])) fp
  have pe := he t3 (L2.upd H2 D (.lst [])) t3.heap.objs.size (cellsFrom (t3.heap.objs.size + 1) scope.names (cloFrom X.env.cells scope.names [])) fp
  have st4 : tn 0 (pushCells (t3.heap.push { cls := .type "dict", data := .dict #[] }) scope.names) := T.keep _ _ _ st2 fun b _ o e => pushCells_keeps _ _ _ _ (Heap.get?_push_of_some _ (by rw [p3]; exact Heap.get?_push_of_some _ e))
  have nfp : ∀ b ∈ fp, (L2.upd H2 D (.lst [])) b = none := fun b hb => (f3 b hb).1.1
  have loop := blk_loop (Y := X.blk t3 (L2.upd H2 D (.lst [])) scope (compEnvC scope (cellsFrom (t3.heap.objs.size + 1) scope.names (cloFrom X.env.cells scope.names [])) t3.heap.objs.size X.env) fp) (s := { t3 with heap := pushCells (t3.heap.push { cls := .type "dict", data := .dict #[] }) scope.names }) (iter := iter) (scope := scope) (D := D) (R := compPost (model X.prog X.w) X.A X.xe none (EP X pins σ Q) (.ref D) t3.heap.objs.size) (pos := pos) (Qd := fun H' => Q (.ref D) H') (m0 := m0) hc rfl rfl rfl T pg pt pe turn (fun t H5 I5 qd => ?_) ⟨by exact k3, 0, _, I4, st4, nfp, w0⟩
  · exact codeAny_compStart_list loop (T.self X.A 0 _ _ _ st4 loop)
  · -- back in the def
    have I6 : Inv X pins σ H5 t := I3.call' (ch := fp) I5.os I5.base I5.hok I5.bare fun b hb => ⟨(f3 b hb).1.2.2.2.1, (f3 b hb).1.2.1, (f3 b hb).1.2.2.2.2.1, (f3 b hb).1.2.2.2.2.2⟩
    have nC : H5 t3.heap.objs.size = none := I5.free
    obtain ⟨m, hn, _⟩ := I5.loc
    refine ⟨m, hn, fun h'' sb => ?_⟩
    obtain ⟨f0, f1, f4, f5, f6, f7⟩ := I3.fpOk (Nat.le_refl _) nC
    exact ⟨.ref D, H5, I6.turned (t' := t.toks) (fun b o hb e => (sb.2 b hb).trans e) f0 f1 f5 f6 f7, rfl, qd⟩
end
section
variable {X : Cx} {e o : Expr} {to te : TE} {pos apos : Pos}
/-- o.name(e), where o gives a token and e wants one -/
theorem pe_m1T {id : String} {name : Str} {r : V → List V → Hp → VK → Prop} (slot : Slot "str" name id) (ty : typeOf (.builtin id) = pure (.type "method_descriptor")) (rule : MtR X id r) (ho : PEb X o to) (he : L2.PET X e te)
    (hs : starEach [e] X.env = [(false, eval e X.env)] := by rfl) (hbase : attributeBase o name X.env (eval o X.env) = eval o X.env := by rfl) (hline : (apos.endLine == pos.line) = true := by rfl) :
    PE X (.Call (.Attribute o name apos) [e] [] pos) (tM1 r to te) := by
  refine ⟨fun pins s σ H Q I h => PySem.Call_method1 hbase hs hline (thn (ho pins s σ H _ I h) fun v t ⟨k1, x, H1, I1, r1, ⟨a, e1⟩, q1⟩ => ?_)⟩
  subst e1
  obtain ⟨tk, rfl⟩ := _root_.id r1
  refine ⟨"str", _, F.plainAttrs_str, slot, ty, typeIs_str _ _ _, (fun _ z => nomatch z), Calls.callWith_builtin rfl (Calls.evalArgs_plain (Calls.spliced_cons ?_))⟩
  exact thn (he pins t σ H1 _ k1 I1 q1) fun u t2 ⟨y, H2, I2, r2, q2⟩ => Calls.spliced_nil (rule pins t2 σ H2 _ [y] _ [u] Q I2 r1 (.cons r2 .nil) q2)
end
section
variable {σ : L2.St} {H : Hp} {ta : TE}
/-- e.replace(y, z), the written y not empty -/
theorem ev_replLL {l y z : List Nat} {s1 s2 : Str} (ha : Ev ta σ H (.str (S l))) (h1 : s1 = S y) (h2 : s2 = S z) (hy : y ≠ []) (hl : l.length ≤ 100000) (hz : z.length ≤ 8) : Ev (CwR.tReplC ta s1 s2) σ H (.str (S (StrLaws.replL y z l))) := fun H1 e Q q => by
  subst h1 h2
  refine ha H1 e _ fun H2 e2 => ⟨S l, rfl, ?_, ?_⟩
  · rw [S_len, S_len]
    have : (l.length + 1) * z.length ≤ 100001 * 8 := Nat.mul_le_mul (by omega) hz
    omega
  · have z1 : Txt.replace (S l) (S y) (S z) = S (StrLaws.replL y z l) := TL.ext_tl (StrLaws.replace_list (show 1 ≤ (S y).length by
      rw [S_len]
      exact List.length_pos_iff.mpr hy))
    rw [z1]
    exact q H2 e2
theorem el_splitG {tb : TE} {l z : List Nat} (ha : Ev ta σ H (.str (S l))) (hb : Ev tb σ H (.str (S z))) (hz : z ≠ []) (hz2 : z.all (· < 256) = true) (hl : l.length ≤ 90000) : EvL (tM1 rSplit ta tb) σ H ((TL.spl z 0 [] l).map fun p => V.str (S p)) := fun H1 e Q q =>
  ha H1 e _ fun H2 e2 => ⟨⟨_, rfl⟩, hb H2 (e.trans e2) _ fun H3 e3 => ⟨S l, S z, rfl, rfl, by
    rw [S_len]
    exact beq_eq_false_iff_ne.mpr fun w => hz (List.length_eq_zero_iff.mp w), sz_of (by rw [S_len]; omega), fun p hp => by
    rw [SX.split_S hz hz2, List.map_map]
    exact q p _ (fresh_back (e2.trans e3) hp) ((e2.trans e3).trans (Ex.new hp)) upd_same⟩⟩
theorem el_lcNM {K : PySem.W.Frag} {te tl : TE} {τ : Type} {ns : List τ} {g f : τ → V} {j : Nat} {vs : List Nat} (h : EvL tl σ H (ns.map g)) (hz : ns.length ≤ 40000) (hw : ∀ x, wipe ((wipe σ vs).set j (some x)) vs = wipe σ vs)
    (he : ∀ n ∈ ns, ∀ H1, Ex H H1 → Ev te ((wipe σ vs).set j (some (g n))) H1 (f n)) : EvL (tLc (iList K tl) (gName j) tYes te vs) σ H (ns.map f) := fun H1 e Q q =>
  lc_first (h H1 e _ fun p H2 np e2 hp => el_lcM (K := K) (a := p) (ev_c (v := .ref p)) (sq_of hp) hz hw (fun n hn H3 e3 => he n hn H3 ((e.trans e2).trans e3)) H2 (Ex.refl _) Q fun p' H3 np' e3 hp' => q p' H3 (fresh_back e2 np') (e2.trans e3) hp')
theorem ev_sumL {K : PySem.W.Frag} {tl : TE} {ns : List Int} (h : EvL tl σ H (ns.map V.int)) : Ev (tCB (rSum K) (tCons tl tNil)) σ H (.int ns.sum) := fun H1 e Q q =>
  h H1 e _ fun p H2 np e2 hp => ⟨p, ns, rfl, sq_of hp, q H2 e2⟩
/-- {a: b, c: d}.get(x, x), all texts -/
theorem ev_get2 {j : Nat} {x s1 s2 s3 s4 : Str} (h : σ[j]? = some (some (.str x))) : Ev (tDGet2 (tDisp [(tC (.str s1), tC (.str s2)), (tC (.str s3), tC (.str s4))]) (tVar j) (tVar j)) σ H (((valV (mergeK [] [(Sum.inr s1, .str s2), (Sum.inr s3, .str s4)]) (Sum.inr x : Key)).getD (.str x))) := fun H1 e Q q => by
  intro p hp
  refine ⟨upd_same, [(Sum.inr s1, .str s2), (Sum.inr s3, .str s4)], rfl, by show 2 ≤ 15; decide, p, rfl, ?_, _, h, _, h, _, dget_rd (.inl upd_same), ?_⟩
  · exact .inl ⟨_, .inl upd_same⟩
  · rw [upd_upd]
    exact q _ (Ex.new hp)
end
/-! ### == of two lists or of two dicts that hold tuples: equal -/
def rEqL (K : PySem.W.Frag) : R2 := fun x y H Q => ∃ n, n ≤ 60 ∧ EqR K H (EqW K H n) x y ∧ Q (.bl true) H
theorem op_eqL {X : Cx} (hu : X.A.units + 64 < cLine) : OpR X (compareOp .Eq) (rEqL X.K) := by
  intro pins s σ H x y v u Q I rx ry h
  obtain ⟨n, hn, he, q⟩ := h
  exact eqR_run I (A := X.A) (by omega) (eqW_run I n X.A.in1 (by show X.A.units + 1 + n < cLine; omega)) he rx ry _ _ ⟨.bl true, H, I, rfl, q⟩
end Kn

/-! Kw: what is never reached; enumerate(list, start=1); != of equal dicts that hold tuples. -/
namespace Kw
open PySem PySem.Spec PyProof.Rows L2 Evl SX Kn
/-! ### never reached -/
def tNo : TS := fun _ _ _ => False
theorem ps_never {X : Cx} {st : Stmt} : PS X st tNo := ⟨fun _ _ _ _ _ _ h => h.elim⟩
theorem pss_never {X : Cx} {sts : List Stmt} : PSs X sts tNo := ⟨fun _ _ _ _ _ _ h => h.elim⟩
/-! ### != of two dicts, equal -/
section
variable {X : Cx} {pins : List (Addr × Obj)} {σ : L2.St} {H : Hp} {s : Shared}
theorem neD_run {a b : Addr} {A : Around} {E Q : Value → Shared → Prop} {ks ls : List (Key × V)} {F : V → V → Prop} (I : Inv X pins σ H s) (hu : A.units < cLine) (ih : ∀ x y v u, F x y → RelV x v → RelV y u → SeqAt.EqP X.prog X.w A.in1 s v u true)
    (h1 : H a = some (.dK ks)) (h2 : H b = some (.dK ls)) (hl : ks.length = ls.length) (hp : ∀ p ∈ ks, ∃ u, valV ls p.1 = some u ∧ F p.2 u) (q : Q (.bool false) s) : wpAny (model X.prog X.w) A (richCompare .NotEq (.ref a) (.ref b)) Q E s := by
  obtain ⟨_, ya, va, ra, da⟩ := I.hok a _ h1
  obtain ⟨_, yb, vb, rb, db⟩ := I.hok b _ h2
  have hv : va.length = vb.length := by rw [← ra.length, hl, rb.length]
  have hh : PySem.W.KeqHitsP X.prog X.w A.in1 s vb va true := hits_run ih rb ra hp
  refine wpAny_richCompare_same_room (op := .NotEq) da.typeIs db.typeIs PySem.F.slot_dict_ne (wpAny_call_entry PySem.F.slot_dict_ne da.typeIs PySem.F.entry_dict_ne (b := Builtin.«dict.__ne__») ?_ (PySem.F.args_dict_ne_2 _ _)) hu
  show wpAny _ _ (Builtin.Dict.dictSlotArgs "__ne__" ⟨[Value.ref a, Value.ref b], []⟩ >>= _) _ _ s
  refine wpAny_bind ?_
  unfold Builtin.Dict.dictSlotArgs
  refine wpAny_bind (wpAny_notOrdered_dict da.typeIs ?_)
  show wpAny _ _ (pure (Value.ref a, Value.ref b)) _ _ s
  refine wpAny_pure (wpAny_bind (wpAny_isInstance (T := "dict") db.typeIs PySem.F.sub_dict_dict ?_))
  rw [show (!true) = false from rfl]
  simp only [Bool.false_eq_true, if_false]
  refine wpAny_bind (wpAny_pure (wpAny_bind (wpAny_pure (wpAny_bind (PySem.W.samePairsP ya yb da db (fun _ => hh) ?_)))))
  refine wpAny_pure ⟨_, rfl, (fun x => nomatch x), ?_⟩
  simpa [hv] using q
end
def rNeL (K : PySem.W.Frag) : R2 := fun x y H Q => ∃ n a b ks ls, n ≤ 60 ∧ x = .ref a ∧ y = .ref b ∧ H a = some (.dK ks) ∧ H b = some (.dK ls) ∧ ks.length = ls.length ∧ (∀ p ∈ ks, ∃ u, valV ls p.1 = some u ∧ EqW K H n p.2 u) ∧ Q (.bl false) H
theorem op_neL {X : Cx} (hu : X.A.units + 64 < cLine) : OpR X (compareOp .NotEq) (rNeL X.K) := by
  intro pins s σ H x y v u Q I rx ry h
  obtain ⟨n, a, b, ks, ls, hn, rfl, rfl, ha, hb, hl, hp, q⟩ := h
  cases (show v = Value.ref a from rx)
  cases (show u = Value.ref b from ry)
  exact neD_run I (A := X.A) (by omega) (eqW_run I n X.A.in1 (by show X.A.units + 1 + n < cLine; omega)) ha hb hl hp ⟨.bl false, H, I, rfl, q⟩
end Kw
/-! ### enumerate(list, start=1) -/
namespace Kw
open PySem PySem.Spec PyProof.Rows L2 Evl SX Kn
def Ite1 (K : PySem.W.Frag) (a : Addr) : It where
  go := fun i H => ∃ xs x, SqL K H a xs ∧ xs[i]? = some x
  yld := fun i H v H' => ∃ T x, v = .ref T ∧ H T = none ∧ H' = upd H T (.tup [.int ((i : Int) + 1), x]) ∧ ∀ xs, SqL K H a xs → xs[i]? = some x
  stop := fun i H => ∃ xs : List V, SqL K H a xs ∧ xs.length ≤ i
theorem ne_obj {h : Heap} {a b : Addr} {o u : Obj} (h1 : h.get? a = some o) (h2 : h.get? b = some u) (d : o.cls ≠ u.cls) : a ≠ b := fun e => by
  rw [e, h2] at h1
  exact d (by rw [Option.some.inj h1])
theorem turn_enum1 {P : Program} {w : World} {K : PySem.W.Frag} {elts : List Expr} {kk : Nat} {tpos : Pos} (a e it : Addr) : Turn P w K (.Tuple elts kk tpos) (Ite1 K a) [e, it] e (fun i h => (∃ old, IsEnum h e it ((i : Int) + 1) old) ∧ h.IsListIter it a i ∧ e ≠ it) := by
  refine ⟨by simp, fun i h st b hb => ?_, fun i h h' st k => ?_, ?_, ?_, fun A i s Q E st h => ?_⟩
  · obtain ⟨⟨old, he⟩, ⟨o, ho, _, hd⟩, _⟩ := st
    rcases List.mem_cons.1 hb with rfl | hb
    · exact ⟨_, he, fun v q => by cases q⟩
    · rw [List.mem_singleton.1 hb]
      exact ⟨o, ho, fun v q => by rw [hd] at q; cases q⟩
  · obtain ⟨⟨old, he⟩, hi, hne⟩ := st
    exact ⟨⟨old, k e (by simp) _ he⟩, hi.at (fun o q => k it (by simp) o q), hne⟩
  · intro X hP hw hK hc i pins s σ H E I hf st hg
    subst hP hw hK
    obtain ⟨⟨old, he⟩, hit, hne⟩ := st
    obtain ⟨xs, x, hq, hx⟩ := hg
    obtain ⟨its, rv, p, _⟩ := I.list hq
    obtain ⟨u, hu, ru⟩ := rv.get hx
    have hlt : i < its.toArray.size := by
      rw [List.size_toArray]
      exact (List.getElem?_eq_some_iff.1 hu).1
    have hea : e ≠ a := by
      obtain ⟨o, ho, h1, _⟩ := p.isList
      exact ne_obj he ho (by rw [h1]; intro z; injection z with z; exact absurd z (by decide))
    have hia : a ≠ it := by
      obtain ⟨o, ho, h1, _⟩ := p.isList
      obtain ⟨o2, ho2, h2, _⟩ := hit
      exact ne_obj ho ho2 (by rw [h1, h2]; intro z; injection z with z; exact absurd z (by decide))
    have el := Heap.lt_size he
    have il : it < s.heap.objs.size := by
      obtain ⟨o2, ho2, _⟩ := hit
      exact Heap.lt_size ho2
    refine wpAny_pyNext_enum_itemC (A := X.A) (Draws.list (A := X.A.in1) (show X.A.in1.handled = none from I.ok.hd hc) it a hia its.toArray) he ⟨hit, p.isList⟩ hlt hne (by simp [hne, hea]) fun x' h' tk hx' ho hst' hT hsz hk => ?_
    have ex : x' = u := by
      rw [List.getElem?_toArray, hu] at hx'
      exact (Option.some.inj hx').symm
    subst ex
    refine ⟨_, rfl, wpAny_letOwnedTupleGo_enum (s := ⟨h', s.gens, s.drawn, tk + 1, s.os⟩) ho fun h2 he2 sb => ?_⟩
    have T2 := (sb.2 s.heap.objs.size (Nat.ne_of_gt el)).trans hT
    have nw : ObjOk X.prog X.w (upd H s.heap.objs.size (.tup [.int ((i : Int) + 1), x])) h2 s.heap.objs.size (.tup [.int ((i : Int) + 1), x]) :=
      ⟨by show 2 ≤ sizeLine; decide, [.int ((i : Int) + 1) tk, x'], .cons ⟨_, rfl⟩ (.cons ru .nil), _, T2, rfl, _, rfl⟩
    have I1 : Inv X pins σ (upd H s.heap.objs.size (.tup [.int ((i : Int) + 1), x])) ⟨h2, s.gens, s.drawn, tk + 1, s.os⟩ := by
      refine I.turnedNew (ch := [e, it]) (fun b ob hb q => ?_) hf (Nat.le_refl _) nw
      have b1 : b ≠ e := fun z => hb (by simp [z])
      have b2 : b ≠ it := fun z => hb (by simp [z])
      rw [sb.2 b b1]
      exact hk b ob b1 b2 q
    refine ⟨.ref s.heap.objs.size, _, I1, rfl, ⟨_, x, rfl, I.hok.fresh (Nat.le_refl _), rfl, fun ys hy => by rw [I.list_inj hy hq]; exact hx⟩, ⟨⟨x', ?_⟩, hst'.1.at (fun o q => (sb.2 it (Ne.symm hne)).trans q), hne⟩, fun b hb => ?_⟩
    · rw [show (((i + 1 : Nat) : Int) + 1) = (i : Int) + 1 + 1 by omega]
      exact he2
    · have bl : b < s.heap.objs.size := by
        rcases List.mem_cons.1 hb with z | z
        · rw [z]; exact el
        · rw [List.mem_singleton.1 z]; exact il
      rw [upd_ne (Nat.ne_of_lt bl)]
      exact (hf b hb).1
  · intro X hP hw hK hc i pins s σ H E I hf st hg
    subst hP hw hK
    obtain ⟨⟨old, he⟩, hit, hne⟩ := st
    obtain ⟨xs, hq, hx⟩ := hg
    obtain ⟨its, rv, p, _⟩ := I.list hq
    obtain ⟨f0, f1, f2, f3, f4, f5⟩ := hf it (by simp)
    have hia : a ≠ it := by
      obtain ⟨o, ho, h1, _⟩ := p.isList
      obtain ⟨o2, ho2, h2, _⟩ := hit
      exact ne_obj ho ho2 (by rw [h1, h2]; intro z; injection z with z; exact absurd z (by decide))
    have hend : its.toArray[i]? = none := by
      rw [List.getElem?_toArray]
      exact List.getElem?_eq_none (by rw [← rv.length]; exact hx)
    have D : Draws X.prog X.w X.A.in1 it [it, a] i (fun _ _ => False) (fun j h => j = i ∧ h.IsListIter it a i ∧ h.IsList a its.toArray) :=
      ⟨fun _ _ ⟨_, ⟨o, ho, _⟩, _⟩ => ⟨o, ho⟩, fun _ _ _ ⟨e1, e2, e3⟩ hk => ⟨e1, e2.at (fun o q => hk it (by simp) o q), e3.at (fun o q => hk a (by simp) o q)⟩, fun j s Q E hj st => absurd st.1 (Nat.ne_of_lt hj),
        fun s Q E st hE => wpAny_nextOf_list_end (show X.A.in1.handled = none from I.ok.hd hc) st.2.1 st.2.2 hend hE⟩
    exact wpAny_pyNext_enum_endD D he ⟨rfl, hit, p.isList⟩ fun h' eb => ⟨rfl, I.turned (t' := s.toks) (fun b o hb q => eb b o hb q) f0 f1 f3 f4 f5⟩
  · obtain ⟨⟨_, he⟩, _⟩ := st
    exact wpAny_pyIter_enum he h
theorem cw_typeK {M : Model} {A : Around} {E : Value → Shared → Prop} {s : Shared} {pos : Pos} {T : String} {first : List Value} {args : List (Bool × Sem Value)} {kw : List (Option Str × Sem Value)} {Q : Value → Shared → Prop} (ha : args.any (·.1) = false) (hk : kw.any (·.1.isNone) = false)
    (h : wpAny M A (evalArgs (.type T) true args kw) (fun a s1 => wpAny M A (call (.type T) (first ++ a.pos) a.kw) Q E s1) E s) : wpAny M A (callWith pos (.type T) first args kw) Q E s := by
  unfold callWith
  refine wpAny_bind (wpAny_holding (wpAny_mono h (fun a s1 h1 => wpAny_bind (wpAny_standAt ?_)) fun _ _ z => z))
  simp only [ha, hk, Bool.or_false]
  refine wpAny_bind (wpAny_pure (wpAny_bind (wpAny_mono h1 (fun r s2 hr => wpAny_bind (wpAny_holding (wpAny_point (wpAny_pure hr)))) fun _ _ z => z)))
def iEnum1 (K : PySem.W.Frag) (ta tk : TA) : TI := fun σ H R => ta σ H fun vs H1 => tk σ H1 fun zs H2 => ∃ a xs, vs = [.ref a] ∧ zs = [.int 1] ∧ SqL K H2 a xs ∧ R (Ite1 K a) H2
theorem pi_enum1 {X : Cx} {e : Expr} {ta tk : TA} {kws : List Keyword} {p pos tpos : Pos} {elts : List Expr} {kk : Nat} (hg : Gl X "enumerate") (hm : X.mg "enumerate" = none) (ha : PA X [e] ta) (hk : PK X kws tk)
    (he : backTo pos (starEach [e] X.env) = (false, eval e X.env) :: backTo pos (starEach [] X.env) := by rfl) (hpl : (backTo pos (starEach [e] X.env)).any (·.1) = false := by rfl)
    (hall : (backToKw pos (keywordEach kws X.env)).all (·.1.isSome) = true := by rfl) (hnone : (backToKw pos (keywordEach kws X.env)).any (·.1.isNone) = false := by rfl) (hks : (backToKw pos (keywordEach kws X.env)).filterMap (·.1) = [Str.ofString "start"] := by rfl) :
    PI X (.Tuple elts kk tpos) (.Call (.Name "enumerate" p) [e] kws pos) (iEnum1 X.K ta tk) := by
  refine ⟨fun pins s σ H R I h => ?_⟩
  refine wpAny_Call_Name_kw (ld_blt I hg hm boot_enumerate (cw_typeK hpl hnone ?_))
  have h2 := ha.run pos pins s σ H _ I h
  rw [he] at h2 ⊢
  refine evalArgs_kwB hall (thn h2 fun us s1 ⟨vs, H1, I1, r1, q1⟩ => thn (hk.run pos pins s1 σ H1 _ I1 q1) fun ws s2 ⟨zs, H2, I2, r2, a, xs, ev, ez, hq, q⟩ => ?_)
  subst ev ez
  rw [hks]
  obtain rfl := Vals.ref1 r1
  obtain ⟨w1, rfl, e1⟩ := vals1 r2
  obtain ⟨t, rfl⟩ := e1
  obtain ⟨its, rv, p', hz⟩ := I2.list hq
  refine enum_begins_start (begins_list a its.toArray) p'.isList (by decide) (by decide) fun h' he hit hsz hk => wpAny_pyIter_enum he ?_
  have I3 : Inv X pins σ H2 ⟨h', s2.gens, s2.drawn, s2.toks, s2.os⟩ := I2.kept (t' := s2.toks) hk
  refine ⟨s2.heap.objs.size + 1, [s2.heap.objs.size + 1, s2.heap.objs.size], _, _, H2, rfl, I3, turn_enum1 a _ s2.heap.objs.size, ⟨⟨.none, he⟩, ⟨_, hit, rfl, rfl⟩, Nat.succ_ne_self _⟩, fun b hb => ?_, q⟩
  have hle : s2.heap.objs.size ≤ b := by
    rcases List.mem_cons.1 hb with z | z
    · rw [z]; exact Nat.le_succ _
    · rw [List.mem_singleton.1 z]; exact Nat.le_refl _
  exact I2.fpOk hle (I2.hok.fresh hle)
theorem walk_enum1 {K : PySem.W.Frag} {a : Addr} {xs : List V} : Walk (Ite1 K a) xs.length (fun H => SqL K H a xs) (YPair (fun i => some (.int ((i : Int) + 1))) (fun i => xs[i]?)) := by
  refine ⟨fun i _ hi q => ⟨xs, xs[i], q, by simp [hi]⟩, fun _ q => ⟨xs, q, Nat.le_refl _⟩, fun i H v H' _ q ⟨T, x, y1, y2, y3, y4⟩ => ?_⟩
  exact ⟨T, .int ((i : Int) + 1), x, y1, y2, y3, rfl, y4 xs q⟩
theorem q_forEn1 {K : PySem.W.Frag} {σ : L2.St} {H : Hp} {D : Ends} {tu tz : TS} {tk : TA} {xs : List V} {tl : TE} {i j : Nat} (h : EvL tl σ H xs) (hk : ∀ H1, EvA tk σ H1 [.int 1]) (Pv : Addr → Nat → L2.St → Hp → Prop) (h0 : ∀ a H1, H a = none → Ex H H1 → H1 a = some (.lst xs) → Pv a 0 σ H1) (hl : ∀ a n σ' H', n ≤ xs.length → Pv a n σ' H' → SqL K H' a xs)
    (hs : ∀ a n x σ' H' H2, xs[n]? = some x → Pv a n σ' H' → Ex H' H2 → tu { D with nx := Pv a (n + 1), ct := Pv a (n + 1), bk := tz D } ((σ'.set i (some (.int ((n : Int) + 1)))).set j (some x)) H2) (hd : ∀ a σ' H', Pv a xs.length σ' H' → tz D σ' H') :
    tSeq (tFor (iEnum1 K (tCons tl tNil) tk) (gTup K 2 (gCons (gName i) (gCons (gName j) gNil))) tu) tz D σ H :=
  h H (Ex.refl H) _ fun a H1 na e ha => hk H1 H1 (Ex.refl H1) _ fun H2 e2 => ⟨a, xs, rfl, rfl, sq_of (e2 _ _ ha), for_it (D := { D with nx := tz D }) walk_enum1 (Pv a) (h0 a H2 na (e.trans e2) (e2 _ _ ha)) (hl a) (fun n v σ' H2 H3 hn p y => by
    obtain ⟨T, u, w, rfl, nT, rfl, hu, hw⟩ := y
    cases hu
    exact unp2 upd_same (hs a n w σ' H2 _ hw p (Ex.new nT))) (hd a)⟩
end Kw

namespace My
open PySem PySem.Spec PyProof.Rows L2 Evl SX Kn Kw
def topS (i : Nat) : Stmt := PySem.Challenge.pw_kilnyard_k12_written_expressions.main.body.getD i (.Pass ⟨0, 0, 0, 0⟩)
abbrev s_format_string : Stmt := topS 1
abbrev N_format_string : List Str := ["text", "escaped"]
theorem sc_format_string : FnScope N_format_string ["text"] (defScope s_format_string) := ⟨rfl, rfl, rfl, by decide +kernel, rfl, by decide +kernel, by decide +kernel⟩
abbrev s_format_expression : Stmt := topS 2
abbrev N_format_expression : List Str := ["expression", "form", "arguments", "argument", "term"]
theorem sc_format_expression : FnScope N_format_expression ["expression"] (defScope s_format_expression) := ⟨rfl, rfl, rfl, by decide +kernel, rfl, by decide +kernel, by decide +kernel⟩
abbrev s_scan_line : Stmt := topS 15
abbrev N_scan_line : List Str := ["path", "number", "line", "tokens", "at", "kind", "text", "behind"]
theorem sc_scan_line : FnScope N_scan_line ["path", "number", "line"] (defScope s_scan_line) := ⟨rfl, rfl, rfl, by decide +kernel, rfl, by decide +kernel, by decide +kernel⟩
abbrev s_is_identifier : Stmt := topS 16
abbrev N_is_identifier : List Str := ["value", "sign"]
theorem sc_is_identifier : FnScope N_is_identifier ["value"] (defScope s_is_identifier) := ⟨rfl, rfl, rfl, by decide +kernel, rfl, by decide +kernel, by decide +kernel⟩
abbrev s__skip_spaces : Stmt := topS 17
abbrev N__skip_spaces : List Str := ["line", "start", "at"]
theorem sc__skip_spaces : FnScope N__skip_spaces ["line", "start"] (defScope s__skip_spaces) := ⟨rfl, rfl, rfl, by decide +kernel, rfl, by decide +kernel, by decide +kernel⟩
abbrev s__token : Stmt := topS 18
abbrev N__token : List Str := ["path", "number", "line", "start", "text", "behind"]
theorem sc__token : FnScope N__token ["path", "number", "line", "start"] (defScope s__token) := ⟨rfl, rfl, rfl, by decide +kernel, rfl, by decide +kernel, by decide +kernel⟩
abbrev s__string : Stmt := topS 19
abbrev N__string : List Str := ["path", "number", "line", "start", "parts", "at", "part"]
theorem sc__string : FnScope N__string ["path", "number", "line", "start"] (defScope s__string) := ⟨rfl, rfl, rfl, by decide +kernel, rfl, by decide +kernel, by decide +kernel⟩
abbrev s__string_part : Stmt := topS 20
abbrev N__string_part : List Str := ["path", "number", "line", "at", "sign"]
theorem sc__string_part : FnScope N__string_part ["path", "number", "line", "at"] (defScope s__string_part) := ⟨rfl, rfl, rfl, by decide +kernel, rfl, by decide +kernel, by decide +kernel⟩
abbrev s_parse_expression : Stmt := topS 25
abbrev N_parse_expression : List Str := ["tokens", "start", "known"]
theorem sc_parse_expression : FnScope N_parse_expression ["tokens", "start", "known"] (defScope s_parse_expression) := ⟨rfl, rfl, rfl, by decide +kernel, rfl, by decide +kernel, by decide +kernel⟩
abbrev s__expression : Stmt := topS 26
abbrev N__expression : List Str := ["tokens", "start", "known", "depth", "term", "at", "terms"]
theorem sc__expression : FnScope N__expression ["tokens", "start", "known", "depth"] (defScope s__expression) := ⟨rfl, rfl, rfl, by decide +kernel, rfl, by decide +kernel, by decide +kernel⟩
abbrev s__term : Stmt := topS 27
abbrev N__term : List Str := ["tokens", "at", "known", "depth", "kind", "text", "column"]
theorem sc__term : FnScope N__term ["tokens", "at", "known", "depth"] (defScope s__term) := ⟨rfl, rfl, rfl, by decide +kernel, rfl, by decide +kernel, by decide +kernel⟩
abbrev s__call : Stmt := topS 28
abbrev N__call : List Str := ["tokens", "at", "known", "depth", "_", "word", "column", "arguments", "behind", "argument"]
theorem sc__call : FnScope N__call ["tokens", "at", "known", "depth"] (defScope s__call) := ⟨rfl, rfl, rfl, by decide +kernel, rfl, by decide +kernel, by decide +kernel⟩
abbrev s__check_behind : Stmt := topS 29
abbrev N__check_behind : List Str := ["tokens", "at", "wanted", "sign", "column"]
theorem sc__check_behind : FnScope N__check_behind ["tokens", "at", "wanted"] (defScope s__check_behind) := ⟨rfl, rfl, rfl, by decide +kernel, rfl, by decide +kernel, by decide +kernel⟩
abbrev s__check_there : Stmt := topS 30
abbrev N__check_there : List Str := ["tokens", "at"]
theorem sc__check_there : FnScope N__check_there ["tokens", "at"] (defScope s__check_there) := ⟨rfl, rfl, rfl, by decide +kernel, rfl, by decide +kernel, by decide +kernel⟩
abbrev s__sign : Stmt := topS 31
abbrev N__sign : List Str := ["tokens", "at"]
theorem sc__sign : FnScope N__sign ["tokens", "at"] (defScope s__sign) := ⟨rfl, rfl, rfl, by decide +kernel, rfl, by decide +kernel, by decide +kernel⟩
abbrev s__law_cell : Stmt := topS 33
abbrev N__law_cell : List Str := ["script", "k"]
theorem sc__law_cell : FnScope N__law_cell ["script", "k"] (defScope s__law_cell) := ⟨rfl, rfl, rfl, by decide +kernel, rfl, by decide +kernel, by decide +kernel⟩
abbrev s__law_draws : Stmt := topS 34
abbrev N__law_draws : List Str := ["cell", "many", "limit", "draws", "rest", "k", "mixed"]
theorem sc__law_draws : FnScope N__law_draws ["cell", "many", "limit"] (defScope s__law_draws) := ⟨rfl, rfl, rfl, by decide +kernel, rfl, by decide +kernel, by decide +kernel⟩
abbrev s__law_text : Stmt := topS 35
abbrev N__law_text : List Str := ["numbers", "chars", "number"]
theorem sc__law_text : FnScope N__law_text ["numbers"] (defScope s__law_text) := ⟨rfl, rfl, rfl, by decide +kernel, rfl, by decide +kernel, by decide +kernel⟩
abbrev s__law_take : Stmt := topS 36
abbrev N__law_take : List Str := ["numbers", "limit"]
theorem sc__law_take : FnScope N__law_take ["numbers", "limit"] (defScope s__law_take) := ⟨rfl, rfl, rfl, by decide +kernel, rfl, by decide +kernel, by decide +kernel⟩
abbrev s__law_term : Stmt := topS 37
abbrev N__law_term : List Str := ["numbers", "depth", "kind", "names", "counts", "which", "k"]
theorem sc__law_term : FnScope N__law_term ["numbers", "depth"] (defScope s__law_term) := ⟨rfl, rfl, rfl, by decide +kernel, rfl, by decide +kernel, by decide +kernel⟩
abbrev s__law_expression : Stmt := topS 38
abbrev N__law_expression : List Str := ["numbers", "depth", "count", "k"]
theorem sc__law_expression : FnScope N__law_expression ["numbers", "depth"] (defScope s__law_expression) := ⟨rfl, rfl, rfl, by decide +kernel, rfl, by decide +kernel, by decide +kernel⟩
abbrev s__law_string : Stmt := topS 39
abbrev N__law_string : List Str := ["text"]
theorem sc__law_string : FnScope N__law_string ["text"] (defScope s__law_string) := ⟨rfl, rfl, rfl, by decide +kernel, rfl, by decide +kernel, by decide +kernel⟩
abbrev s__law_written : Stmt := topS 40
abbrev N__law_written : List Str := ["expression", "term", "argument"]
theorem sc__law_written : FnScope N__law_written ["expression"] (defScope s__law_written) := ⟨rfl, rfl, rfl, by decide +kernel, rfl, by decide +kernel, by decide +kernel⟩
abbrev s_law : Stmt := topS 41
abbrev N_law : List Str := ["script", "numbers", "expression", "written", "known", "tokens", "longer", "actual", "cell"]
theorem sc_law : FnScope N_law ["script"] (defScope s_law) := ⟨rfl, rfl, rfl, by decide +kernel, rfl, by decide +kernel, by decide +kernel⟩
abbrev s_InvalidRecipe___init__ : Stmt := inClass (topS 5) 0
abbrev N_InvalidRecipe___init__ : List Str := ["self", "path", "line", "column", "reason"]
theorem sc_InvalidRecipe___init__ : FnScope N_InvalidRecipe___init__ ["self", "path", "line", "column", "reason"] (defScope s_InvalidRecipe___init__) := ⟨rfl, rfl, rfl, by decide +kernel, rfl, by decide +kernel, by decide +kernel⟩
abbrev s_BadToken___init__ : Stmt := inClass (topS 24) 0
abbrev N_BadToken___init__ : List Str := ["self", "column", "reason"]
theorem sc_BadToken___init__ : FnScope N_BadToken___init__ ["self", "column", "reason"] (defScope s_BadToken___init__) := ⟨rfl, rfl, rfl, by decide +kernel, rfl, by decide +kernel, by decide +kernel⟩
structure Tx (mg : Str → Option Value) : Prop where
  b_abs : mg "abs" = none
  b_all : mg "all" = none
  b_int : mg "int" = none
  b_isinstance : mg "isinstance" = none
  b_len : mg "len" = none
  b_max : mg "max" = none
  b_range : mg "range" = none
  b_str : mg "str" = none
  b_tuple : mg "tuple" = none
  c_IDENTIFIER_LENGTH : ∃ u, mg "IDENTIFIER_LENGTH" = some u ∧ RelV (.int 12) u
  c_LETTERS : ∃ u, mg "LETTERS" = some u ∧ RelV (.str (Str.ofString "abcdefghijklmnopqrstuvwxyz")) u
  c_IDENTIFIER_SIGNS : ∃ u, mg "IDENTIFIER_SIGNS" = some u ∧ RelV (.str (Str.ofString "abcdefghijklmnopqrstuvwxyz0123456789_")) u
  c_SIGNS : ∃ u, mg "SIGNS" = some u ∧ RelV (.str (Str.ofString "(),+")) u
  c_QUOTE : ∃ u, mg "QUOTE" = some u ∧ RelV (.str (Str.ofString "\"")) u
  c_BACKSLASH : ∃ u, mg "BACKSLASH" = some u ∧ RelV (.str (Str.ofString "\\")) u
  c_WORD_ENDS : ∃ u, mg "WORD_ENDS" = some u ∧ RelV (.str (Str.ofString " \"(),+")) u
  c_MOST_CALLS : ∃ u, mg "MOST_CALLS" = some u ∧ RelV (.int 6) u
structure Gx (K : PySem.W.Frag) (mg : Str → Option Value) where
  c_BuildError : Addr
  g_BuildError : mg "BuildError" = some (.ref c_BuildError)
  b_BuildError : Kn.BaseC K c_BuildError
  c_InvalidRecipe : Addr
  g_InvalidRecipe : mg "InvalidRecipe" = some (.ref c_InvalidRecipe)
  x_InvalidRecipe : Kn.Xc K c_InvalidRecipe c_BuildError
  n_InvalidRecipe_path : PySem.W.findIn K (.ref c_InvalidRecipe) "path" = some none
  n_InvalidRecipe_line : PySem.W.findIn K (.ref c_InvalidRecipe) "line" = some none
  n_InvalidRecipe_column : PySem.W.findIn K (.ref c_InvalidRecipe) "column" = some none
  n_InvalidRecipe_reason : PySem.W.findIn K (.ref c_InvalidRecipe) "reason" = some none
  c_BadToken : Addr
  g_BadToken : mg "BadToken" = some (.ref c_BadToken)
  x_BadToken : Kn.Xc K c_BadToken c_BuildError
  n_BadToken_column : PySem.W.findIn K (.ref c_BadToken) "column" = some none
  n_BadToken_reason : PySem.W.findIn K (.ref c_BadToken) "reason" = some none
local macro_rules | `(tactic| walk_at "ev") => `(tactic| first
  | exact ev_c
  | exact ev_var rfl
  | exact ea_nil
  | exact eo_none
  | (apply eo_some; walk_at "ev")
  | (apply ea_cons <;> walk_at "ev")
  | (apply ev_op <;> first | walk_at "rv" | walk_at "ev")
  | (apply ev_un <;> first | exact ru_neg | walk_at "ev")
  | (apply ev_chain <;> first | walk_at "rv" | walk_at "ev")
  | (apply et_test; walk_at "ev")
  | (apply et_B; walk_at "ev")
  | (apply et_not; walk_at "ev")
  | (apply et_and; walk_at "ev"; intro _; walk_at "ev")
  | (apply et_or; walk_at "ev"; intro _; walk_at "ev")
  | (apply ev_andV; walk_at "ev"; intro _; walk_at "ev")
  | (apply ev_orV; walk_at "ev"; intro _; walk_at "ev")
  | (apply ev_notV; walk_at "ev")
  | (apply ev_cb <;> first | walk_at "rc" | walk_at "ev"))
local macro_rules | `(tactic| walk_at "rv") => `(tactic| first
  | exact rv_eqI | exact rv_neI | exact rv_eqS | exact rv_neS | exact rv_le | exact rv_lt | exact rv_ge | exact rv_gt | exact rv_inS | exact rv_ninS
  | exact rv_I0
  | exact rv_pow ⟨by decide, by decide, by decide⟩
  | exact rv_mod (by first | decide | omega)
  | exact rv_fdiv ⟨by decide, by decide⟩
  | exact rv_fdiv ⟨by omega, by omega⟩
  | exact rv_addS (by first | assumption | omega)
  | exact rv_mul (.inr ⟨by decide, by decide⟩) | exact rv_mul (.inl ⟨by decide, by decide⟩)
  | exact rv_mul (by first | exact .inl ⟨by omega, by omega⟩ | exact .inr ⟨by omega, by omega⟩)
  | exact rv_eq rfl | exact rv_ne rfl)
local macro_rules | `(tactic| walk_at "rc") => `(tactic| first
  | exact rc_abs | exact rc_int | exact rc_intB | exact rc_ord
  | exact rc_lenS (by first | assumption | omega))

section
variable {P : Program} {w : World} {K : PySem.W.Frag} {mg : Str → Option Value} {base : Heap}
theorem ok_InvalidRecipe___init__ {f : Addr} {fd : FuncData} (F : Fun K "__init__" "InvalidRecipe.__init__" s_InvalidRecipe___init__ f fd) (T : Tx mg) (G : Gx K mg)  : FnOk P w K mg base CX0 1 f fd ["self", "path", "line", "column", "reason"] (sp_I4 K) := by
  refine F.ok sc_InvalidRecipe___init__ (fun vs H Q E h => ?_) (fun cdv A outer s H vs Q E hr h => ?_)
  · obtain ⟨a, C, p, n, c, r, rfl, _⟩ := h
    rfl
  · obtain ⟨a, C, p, n, c, r, rfl, ⟨hp, hr1, hn, hc⟩, ha, oe, nf, q⟩ := h
    refine ⟨_, (pss_cons (ps_expr (Kn.pe_beinit G.b_BuildError (by rfl) G.g_BuildError (pa_cons (pv 0) (pa_cons (pe_joined (.cons (pe_fmt (pv 1)) (.cons pe_str (.cons (pe_fmt (pv 2)) (.cons pe_str (.cons (pe_fmt (pv 3)) (.cons pe_str (.cons (pe_fmt (pv 4)) .nil)))))))) pa_nil))))
      (pss_cons (ps_ost (pv 0) (pv 1))
      (pss_cons (ps_ost (pv 0) (pv 2))
      (pss_cons (ps_ost (pv 0) (pv 3))
      (pss_one (ps_ost (pv 0) (pv 4))))))), ?_⟩
    have l1 := num_len hn
    have l2 := num_len hc
    exact init4_body (p := p) (n := n) (c := c) (r := r) rfl (ev_js (.cons (ev_fmtS (ev_var rfl) (by omega)) (.cons (ev_cS (l := (Str.ofString ", line ").cps.toList) rfl) (.cons (ev_fmtI (ev_var rfl) hn) (.cons (ev_cS (l := (Str.ofString ", column ").cps.toList) rfl) (.cons (ev_fmtI (ev_var rfl) hc) (.cons (ev_cS (l := (Str.ofString ": ").cps.toList) rfl) (.cons (ev_fmtS (ev_var rfl) (by omega)) .nil))))))) (by show p.length + (7 + ((TL.numL n).length + (9 + ((TL.numL c).length + (2 + (r.length + 0)))))) ≤ 100000; omega)) ha oe nf fun dx H' h1 h2 m => q dx H' h1 h2 m

theorem ok_BadToken___init__ {f : Addr} {fd : FuncData} (F : Fun K "__init__" "BadToken.__init__" s_BadToken___init__ f fd) (T : Tx mg) (G : Gx K mg)  : FnOk P w K mg base CX0 1 f fd ["self", "column", "reason"] (sp_I2 K) := by
  refine F.ok sc_BadToken___init__ (fun vs H Q E h => ?_) (fun cdv A outer s H vs Q E hr h => ?_)
  · obtain ⟨a, C, c, r, rfl, _⟩ := h
    rfl
  · obtain ⟨a, C, c, r, rfl, ⟨hr1, hc⟩, ha, oe, nf, q⟩ := h
    refine ⟨_, (pss_cons (ps_expr (Kn.pe_beinit G.b_BuildError (by rfl) G.g_BuildError (pa_cons (pv 0) (pa_cons (pe_joined (.cons pe_str (.cons (pe_fmt (pv 1)) (.cons pe_str (.cons (pe_fmt (pv 2)) .nil))))) pa_nil))))
      (pss_cons (ps_ost (pv 0) (pv 1))
      (pss_one (ps_ost (pv 0) (pv 2))))), ?_⟩
    have l2 := num_len hc
    exact init2_body (c := c) (r := r) rfl (ev_js (.cons (ev_cS (l := (Str.ofString "column ").cps.toList) rfl) (.cons (ev_fmtI (ev_var rfl) hc) (.cons (ev_cS (l := (Str.ofString ": ").cps.toList) rfl) (.cons (ev_fmtS (ev_var rfl) (by omega)) .nil)))) (by show 7 + ((TL.numL c).length + (2 + (r.length + 0))) ≤ 100000; omega)) ha oe nf fun dx H' h1 h2 m => q dx H' h1 h2 m

end
/-! ### scanning -/
def unt : List Nat := (Str.ofString "unterminated string").cps.toList
def escR : List Nat := (Str.ofString "invalid escape").cps.toList
def SGN : List Nat := (Str.ofString "(),+").cps.toList
def WEN : List Nat := (Str.ofString " \"(),+").cps.toList
def kStr : List Nat := (Str.ofString "string").cps.toList
def kSig : List Nat := (Str.ofString "sign").cps.toList
def kWrd : List Nat := (Str.ofString "word").cps.toList
def escF : List (Str × V) := [("n", .str (Str.ofString "\n")), (Str.ofString "\"", .str (Str.ofString "\"")), (Str.ofString "\\", .str (Str.ofString "\\"))]
def escOf (c : Nat) : Option Nat := if c = 110 then some 10 else if c = 34 then some 34 else if c = 92 then some 92 else none
theorem esc_look (c : Nat) : wdLook escF (S [c]) = (escOf c).map fun d => V.str (S [d]) := by
  have e1 : ("n" : Str) = S [110] := S1 _ (by decide +kernel)
  have e2 : Str.ofString "\"" = S [34] := S1 _ (by decide +kernel)
  have e3 : Str.ofString "\\" = S [92] := S1 _ (by decide +kernel)
  have e4 : Str.ofString "\n" = S [10] := S1 _ (by decide +kernel)
  have inj : ∀ {a b : Nat}, (S [a] = S [b]) ↔ a = b := fun {a b} => ⟨fun h => (List.cons.inj (S_inj h)).1, fun h => by rw [h]⟩
  unfold wdLook escF escOf
  rw [e1, e2, e3, e4]
  by_cases h1 : c = 110
  · subst h1
    rw [List.find?_cons]
    simp
  · rw [if_neg h1, List.find?_cons, decide_eq_false (fun z => h1 (inj.mp z).symm)]
    by_cases h2 : c = 34
    · subst h2
      rw [List.find?_cons]
      simp
    · rw [if_neg h2]
      dsimp only
      rw [List.find?_cons, decide_eq_false (fun z => h2 (inj.mp z).symm)]
      by_cases h3 : c = 92
      · subst h3
        rw [List.find?_cons]
        simp
      · rw [if_neg h3]
        dsimp only
        rw [List.find?_cons, decide_eq_false (fun z => h3 (inj.mp z).symm)]
        rfl
theorem esc_look0 : wdLook escF (S []) = none := by
  have ne : ∀ {a : Nat}, ¬ S [a] = S [] := fun {a} h => List.cons_ne_nil _ _ (S_inj h)
  have e1 : ("n" : Str) = S [110] := S1 _ (by decide +kernel)
  have e2 : Str.ofString "\"" = S [34] := S1 _ (by decide +kernel)
  have e3 : Str.ofString "\\" = S [92] := S1 _ (by decide +kernel)
  unfold wdLook escF
  rw [e1, e2, e3, List.find?_cons, decide_eq_false ne]
  dsimp only
  rw [List.find?_cons, decide_eq_false ne]
  dsimp only
  rw [List.find?_cons, decide_eq_false ne]
  rfl
/-- what reading gives: or the column and the reason of the first error -/
abbrev Rs (α : Type) := α ⊕ (Nat × List Nat)
/-- the part of a string at an index: its text and the index behind it -/
def partG (l : List Nat) (at_ : Nat) : Rs (List Nat × Nat) := match l.drop at_ with
  | [] => .inl ([], at_)
  | c :: r => if c = 92 then (match r with
      | [] => .inl ([], at_ + 2)
      | d :: _ => match escOf d with
        | some e => .inl ([e], at_ + 2)
        | none => .inr (at_ + 1, escR)) else .inl ([c], at_ + 1)
/-- the string whose first quote is at q -/
def strG : List Nat → Nat → Nat → List Nat → Rs (List Nat × Nat)
  | [], _, q, _ => .inr (q + 1, unt)
  | c :: r, at_, q, acc => if c = 34 then .inl (acc, at_ + 1) else if c = 92 then (match r with
      | [] => .inr (q + 1, unt)
      | d :: r' => match escOf d with
        | some e => strG r' (at_ + 2) q (acc ++ [e])
        | none => .inr (at_ + 1, escR)) else strG r (at_ + 1) q (acc ++ [c])
def skip (l : List Nat) (at_ : Nat) : Nat := at_ + ((l.drop at_).takeWhile fun c => decide (c = 32)).length
abbrev Tok3 := List Nat × List Nat × Nat
def wordG (l : List Nat) (at_ : Nat) : List Nat := (l.drop at_).takeWhile fun c => !decide (c ∈ WEN)
/-- the kind and the text of the token at an index, and the index behind it -/
def tokG (l : List Nat) (at_ : Nat) : Rs Tok3 := match l.drop at_ with
  | [] => .inl (kWrd, [], at_)
  | c :: r => if c = 34 then (match strG r (at_ + 1) at_ [] with
      | .inl (t, b) => .inl (kStr, t, b)
      | .inr e => .inr e) else if c ∈ SGN then .inl (kSig, [c], at_ + 1) else .inl (kWrd, wordG l at_, at_ + (wordG l at_).length)
def scanG (l : List Nat) : Nat → Nat → List Tok3 → Rs (List Tok3)
  | 0, _, acc => .inl acc
  | n + 1, at_, acc => if at_ < l.length then (match tokG l at_ with
      | .inl (k, t, b) => scanG l n (skip l b) (acc ++ [(k, t, at_ + 1)])
      | .inr e => .inr e) else .inl acc
def isRem (l : List Nat) : Bool := decide ((l.dropWhile fun d => decide (d = 32))[0]? = some 35)
def scan (l : List Nat) : Rs (List Tok3) := if isRem l = true then .inl [] else scanG l l.length (skip l 0) []
def pairD (x : List Nat × Nat) : PyData := .tuple [.str (S x.1), .int (x.2 : Int)]
def tokD (x : Tok3) : PyData := .tuple [.str (S x.1), .str (S x.2.1), .int (x.2.2 : Int)]
/-- what a reading def promises -/
def Rd_ {α : Type} (D : α → PyData) (H : Hp) (Q : VK) (E : XK) (C : Addr) (path : List Nat) (num : Nat) (r : Rs α) : Prop :=
  (∀ x, r = .inl x → RtD H (D x) Q) ∧ ∀ c why, r = .inr (c, why) → Rz4 H E C path num c why
theorem drop_get {l : List Nat} {i c : Nat} (h : l[i]? = some c) : l.drop i = c :: l.drop (i + 1) := by
  obtain ⟨hi, e⟩ := List.getElem?_eq_some_iff.mp h
  rw [List.drop_eq_getElem_cons hi, e]
theorem tw_mem {p : Nat → Bool} {l : List Nat} {a : Nat} (h : l.length ≤ a) : l.drop a = [] := List.drop_of_length_le h
theorem skip_ge (l : List Nat) (a : Nat) : a ≤ skip l a := Nat.le_add_right _ _
theorem skip_end {l : List Nat} {a : Nat} (h : ¬ (a < l.length ∧ l[a]? = some 32)) : skip l a = a := by
  unfold skip
  by_cases ha : a < l.length
  · have e : l[a]? = some l[a] := List.getElem?_eq_getElem ha
    rw [drop_get e, List.takeWhile_cons, decide_eq_false (fun z => h ⟨ha, by rw [e, z]⟩)]
    rfl
  · rw [tw_mem (p := fun _ => true) (by omega)]
    rfl
theorem skip_step {l : List Nat} {a : Nat} (h : l[a]? = some 32) : skip l a = skip l (a + 1) := by
  unfold skip
  rw [drop_get h, List.takeWhile_cons, decide_eq_true rfl]
  show a + ((l.drop (a + 1)).takeWhile fun c => decide (c = 32)).length.succ = _
  omega
section
variable {P : Program} {w : World} {K : PySem.W.Frag} {mg : Str → Option Value} {base : Heap}
def sp__skip_spaces (_ : PySem.W.Frag) : Sp := sp2 (fun (l : List Nat) (a : Nat) => [.str (S l), .int (a : Int)]) (fun l a _ => l.length ≤ 45000) (fun l a => .int (skip l a : Nat))
theorem ok__skip_spaces {f : Addr} {fd : FuncData} (F : Fun K "_skip_spaces" "_skip_spaces" s__skip_spaces f fd) (T : Tx mg) (G : Gx K mg)  : FnOk P w K mg base CX0 1 f fd ["line", "start"] (sp__skip_spaces K) := by
  refine F.ok sc__skip_spaces (fun vs H Q E h => ?_) (fun cdv A outer s H vs Q E hr h => ?_)
  · obtain ⟨l, a, rfl, _⟩ := h
    rfl
  · obtain ⟨l, a, rfl, hl, q⟩ := h
    refine ⟨_, (pss_cons (ps_set (i := 2) sc__skip_spaces.nd rfl (Or.inl rfl) (pv 1))
      (pss_cons (ps_while PassesOwn.never (PW.pt (pw_and (pt_cmpR op_lt (pv 2) (pe_callB Kn.cr_lenStr (by rfl) T.b_len PySem.boot_len (pa_cons (pv 0) pa_nil)) (nomark _)) (pw_and1 (pt_cmpR op_eq (pe_ix ix_str (pv 0) (pv 2) (fun _ _ => rfl)) pe_str (nomark _))))) (pss_one (ps_aug (i := 2) sc__skip_spaces.nd rfl (Or.inl rfl) pe_int ip_add)))
      (pss_one (ps_ret (pv 2))))), ?_⟩
    refine q_asg (ev_var rfl) fun H1 e1 => ?_
    refine q_while (fun m σ' H' => ∃ b, m = l.length - b ∧ σ' = [some (.str (S l)), some (.int (a : Int)), some (.int (b : Int))] ∧ Ex H H' ∧ skip l b = skip l a) (l.length - a) ⟨a, rfl, rfl, e1, rfl⟩ ?_
    rintro m σ' H2 ⟨b, rfl, rfl, e2, hb⟩
    refine ⟨decide ((b : Int) < (l.length : Int)) && decide (l[b]? = some 32), et_and (et_test (ev_op (ev_var rfl) (ev_cb (ea_cons (ev_var rfl) ea_nil) (rc_lenS (by omega))) rv_lt)) fun h => ?_, fun h H3 e3 => ?_, fun h H3 e3 => ?_⟩
    · have hlt : b < l.length := by
        have := of_decide_eq_true h
        omega
      have e := List.getElem?_eq_getElem hlt
      rw [e]
      exact et_is (et_test (ev_op (ev_idxS (ev_var rfl) (ev_var rfl) (by omega) (atI_nat e)) (ev_cS (l := [32]) rfl) rv_eqS)) (by simp)
    · rw [Bool.and_eq_true, decide_eq_true_eq, decide_eq_true_eq] at h
      refine ⟨fun σ' H' => σ' = [some (.str (S l)), some (.int (a : Int)), some (.int ((b : Int) + 1))] ∧ Ex H H', fun σ2 H4 ⟨z1, z2⟩ => ⟨l.length - (b + 1), by omega, b + 1, rfl, by rw [z1, Int.natCast_add]; rfl, z2, by rw [← skip_step h.2, hb]⟩, ?_⟩
      exact s_aug (a := (b : Int)) (b := 1) rfl ev_c fun H4 e4 => ⟨rfl, (e2.trans e3).trans e4⟩
    · refine s_ret (v := .int ((skip l a : Nat) : Int)) (ev_is (ev_var rfl) ?_) fun H4 e4 => q H4 ((e2.trans e3).trans e4)
      rw [← hb, skip_end fun z => ?_]
      rw [decide_eq_true (show (b : Int) < (l.length : Int) by omega), decide_eq_true z.2] at h
      cases h
/-- reading a line: the arguments -/
def ScA (path l : List Nat) (num a : Nat) : Prop := path.length ≤ 9000 ∧ l.length ≤ 45000 ∧ num < 10 ^ 9 ∧ a ≤ 50000
def sp__string_part (G : Gx K mg) : Sp := fun vs H Q E => ∃ (path l : List Nat) (num a : Nat), vs = [.str (S path), .int (num : Int), .str (S l), .int (a : Int)] ∧ ScA path l num a ∧ a < l.length ∧ Rd_ pairD H Q E G.c_InvalidRecipe path num (partG l a)
theorem nf4 (G : Gx K mg) : Nf4 K G.c_InvalidRecipe := ⟨G.n_InvalidRecipe_path, G.n_InvalidRecipe_line, G.n_InvalidRecipe_column, G.n_InvalidRecipe_reason⟩
theorem evd_pair {σ : L2.St} {H : Hp} {t1 t2 : TE} {t : List Nat} {b : Nat} (h1 : Ev t1 σ H (.str (S t))) (h2 : Ev t2 σ H (.int (b : Int))) : EvD (tTup (tCons t1 (tCons t2 tNil))) σ H (pairD (t, b)) :=
  evd_tup (eda_cons (evd_str h1) (eda_cons (evd_int h2) eda_nil)) (by show 2 ≤ 100000; decide)
theorem ev_addN {σ : L2.St} {H : Hp} {te : TE} {n m : Nat} {k : Int} (h : Ev te σ H (.int (n : Int))) (hk : k = (m : Int)) : Ev (tOp (rI0 fun i j => .int (i + j)) te (tC (.int k))) σ H (.int ((n + m : Nat) : Int)) := by
  subst hk
  exact ev_is (ev_op h ev_c rv_I0) (by rw [Int.natCast_add])
theorem ok__string_part {f : Addr} {fd : FuncData} (F : Fun K "_string_part" "_string_part" s__string_part f fd) (T : Tx mg) (G : Gx K mg) (Z_InvalidRecipe : Kn.Xk P w K mg base 1 "InvalidRecipe" G.c_InvalidRecipe (sp_I4 K)) {D_ESCAPES : Addr} (W_ESCAPES : Kn.WD K w mg "ESCAPES" D_ESCAPES escF) : FnOk P w K mg base (L2.CX P w) 3 f fd ["path", "number", "line", "at"] (sp__string_part G) := by
  refine F.okX sc__string_part (fun vs H Q E h => ?_) (fun cdv A outer s H vs Q E hr h => ?_)
  · obtain ⟨path, l, num, a, rfl, _⟩ := h
    rfl
  · obtain ⟨path, l, num, a, rfl, ⟨hp, hl, hn, ha⟩, hal, q, qe⟩ := h
    refine ⟨_, (pss_cons (ps_if (pt_cmpR op_ne (pe_ix ix_str (pv 2) (pv 3) (fun _ _ => rfl)) (C8.pe_gc (by rfl) T.c_BACKSLASH) (nomark _)) (pss_one (ps_ret (pe_tup (pa_cons (pe_ix ix_str (pv 2) (pv 3) (fun _ _ => rfl)) (pa_cons (pe_op op_add (pv 3) pe_int) pa_nil))))) pss_nil)
      (pss_cons (ps_set (i := 4) sc__string_part.nd rfl (Or.inl rfl) (pe_slice sl_str (pv 2) (po_some (pe_op op_add (pv 3) pe_int)) (po_some (pe_op op_add (pv 3) pe_int))))
      (pss_cons (ps_if (PW.pt (pw_and (pt_cmpR op_ne (pv 4) pe_str (nomark _)) (pw_and1 (pt_cmpR (Kn.op_notIn_wd W_ESCAPES) (pv 4) (Kn.pe_wd W_ESCAPES (by rfl)) rfl)))) (pss_one (Kn.ps_xk Z_InvalidRecipe hr (by decide) rfl (takes_of rfl rfl rfl rfl) (by rfl) (pa_cons (pv 0) (pa_cons (pv 1) (pa_cons (pe_op op_add (pv 3) pe_int) (pa_cons pe_str pa_nil)))))) pss_nil)
      (pss_one (ps_ret (pe_tup (pa_cons (Kn.pe_wget2 W_ESCAPES (Kn.pe_wd W_ESCAPES (by rfl)) (pv 4) pe_str ⟨rfl, rfl, rfl, rfl⟩) (pa_cons (pe_op op_add (pv 3) pe_int) pa_nil)))))))), ?_⟩
    have eg := List.getElem?_eq_getElem hal
    generalize l[a] = c at eg
    have hd := drop_get eg
    refine q_when (b := !decide (c = 92)) (et_is (et_test (ev_op (ev_idxS (ev_var rfl) (ev_var rfl) (by omega) (atI_nat eg)) (ev_cS (l := [92]) rfl) rv_neS)) (by simp)) (fun hb H1 e1 => ?_) fun hb H1 e1 => ?_
    · have hc : ¬ c = 92 := fun z => by rw [decide_eq_true z] at hb; cases hb
      have hr2 : partG l a = .inl ([c], a + 1) := by unfold partG; rw [hd]; dsimp only; rw [if_neg hc]
      exact s_retD (evd_pair (ev_idxS (ev_var rfl) (ev_var rfl) (by omega) (atI_nat eg)) (ev_addN (m := 1) (ev_var rfl) rfl)) (((q _ hr2).mono e1))
    have hc : c = 92 := by
      by_cases z : c = 92
      · exact z
      · rw [decide_eq_false z] at hb; cases hb
    refine q_asg (v := .str (S ((l.drop (a + 1)).take 1))) (ev_is (ev_slS (ev_var rfl) (eo_some (ev_addN (m := 1) (ev_var rfl) rfl)) (eo_some (ev_addN (m := 2) (ev_var rfl) rfl)) (by omega)) (by rw [cutS_nat]; congr 3; omega)) fun H2 e2 => ?_
    cases hrest : l.drop (a + 1) with
    | nil =>
      have hr2 : partG l a = .inl ([], a + 2) := by unfold partG; rw [hd, hrest]; dsimp only; rw [if_pos hc]
      refine q_when (b := false) (et_is (et_and (a := false) (b := false) (et_is (et_test (ev_op (ev_var rfl) (ev_cS (l := []) rfl) rv_neS)) (by simp)) fun z => nomatch z) rfl) (fun z => nomatch z) fun _ H3 e3 => ?_
      refine s_retD (evd_pair (ev_is (ev_wget2 (l := []) ev_c (ev_var rfl) (ev_cS (l := []) rfl)) (by rw [esc_look0]; rfl)) (ev_addN (m := 2) (ev_var rfl) rfl)) ((q _ hr2).mono ((e1.trans e2).trans e3))
    | cons d r =>
      have hlk := esc_look d
      cases he : escOf d with
      | none =>
        rw [he] at hlk
        have hr2 : partG l a = .inr (a + 1, escR) := by unfold partG; rw [hd, hrest]; dsimp only; rw [if_pos hc, he]
        refine q_when (b := true) (et_is (et_and (a := true) (b := true) (et_is (et_test (ev_op (ev_var rfl) (ev_cS (l := []) rfl) rv_neS)) (by simp)) fun _ => et_is (et_test (ev_op (ev_var rfl) ev_c (rv_wnin (l := [d])))) (by rw [hlk]; rfl)) rfl) (fun _ H3 e3 => ?_) (fun z => nomatch z)
        exact raise4 (W := fun cls d _ H => E cls d H) (n := num) (c := a + 1) G.x_InvalidRecipe.oe (nf4 G) ⟨hp, by decide +kernel, hn, by omega⟩ (ev_var rfl) (ev_var rfl) (ev_addN (m := 1) (ev_var rfl) rfl) (ev_cS (l := escR) rfl) fun d2 H' e hd2 => qe _ _ hr2 d2 H' (((e1.trans e2).trans e3).trans e) hd2
      | some e0 =>
        rw [he] at hlk
        have hr2 : partG l a = .inl ([e0], a + 2) := by unfold partG; rw [hd, hrest]; dsimp only; rw [if_pos hc, he]
        refine q_when (b := false) (et_is (et_and (a := true) (b := false) (et_is (et_test (ev_op (ev_var rfl) (ev_cS (l := []) rfl) rv_neS)) (by simp)) fun _ => et_is (et_test (ev_op (ev_var rfl) ev_c (rv_wnin (l := [d])))) (by rw [hlk]; rfl)) rfl) (fun z => nomatch z) fun _ H3 e3 => ?_
        refine s_retD (evd_pair (ev_is (ev_wget2 (l := [d]) ev_c (ev_var rfl) (ev_cS (l := []) rfl)) (by rw [hlk]; rfl)) (ev_addN (m := 2) (ev_var rfl) rfl)) ((q _ hr2).mono ((e1.trans e2).trans e3))
end

section
variable {P : Program} {w : World} {K : PySem.W.Frag} {mg : Str → Option Value} {base : Heap}
def sp__string (G : Gx K mg) : Sp := fun vs H Q E => ∃ (path l : List Nat) (num a : Nat), vs = [.str (S path), .int (num : Int), .str (S l), .int (a : Int)] ∧ ScA path l num a ∧ a < l.length ∧ Rd_ pairD H Q E G.c_InvalidRecipe path num (strG (l.drop (a + 1)) (a + 1) a [])
theorem strG_cons {c : Nat} {r : List Nat} {b q : Nat} {acc : List Nat} : strG (c :: r) b q acc = if c = 34 then .inl (acc, b + 1) else if c = 92 then (match r with
      | [] => .inr (q + 1, unt)
      | d :: r' => match escOf d with
        | some e => strG r' (b + 2) q (acc ++ [e])
        | none => .inr (b + 1, escR)) else strG r (b + 1) q (acc ++ [c]) := by
  conv => lhs; unfold strG
theorem strG_nil {b q : Nat} {acc : List Nat} : strG [] b q acc = .inr (q + 1, unt) := by unfold strG; rfl
theorem str_part {l : List Nat} {b q : Nat} {acc t : List Nat} {b2 : Nat} (hb : b < l.length) (hc : l[b]? ≠ some 34) (h : partG l b = .inl (t, b2)) : strG (l.drop b) b q acc = strG (l.drop b2) b2 q (acc ++ t) ∧ b < b2 ∧ b2 ≤ b + 2 := by
  have eg := List.getElem?_eq_getElem hb
  generalize l[b] = c at eg
  have hd := drop_get eg
  have hc34 : ¬ c = 34 := fun z => hc (by rw [eg, z])
  unfold partG at h
  rw [hd] at h ⊢
  dsimp only at h
  rw [strG_cons, if_neg hc34]
  by_cases h92 : c = 92
  · rw [if_pos h92] at h ⊢
    cases hr : l.drop (b + 1) with
    | nil =>
      rw [hr] at h
      cases h
      have e2 : l.drop (b + 2) = [] := by
        have : l.length ≤ b + 1 := List.drop_eq_nil_iff.mp hr
        exact List.drop_of_length_le (by omega)
      rw [e2]
      exact ⟨strG_nil.symm, by omega, by omega⟩
    | cons d r =>
      rw [hr] at h
      dsimp only at h ⊢
      have e2 : l.drop (b + 2) = r := by
        have : l.drop (b + 1 + 1) = (l.drop (b + 1)).drop 1 := by rw [List.drop_drop]
        rw [this, hr]
        rfl
      cases he : escOf d with
      | none => rw [he] at h; cases h
      | some e =>
        rw [he] at h
        cases h
        rw [e2]
        exact ⟨rfl, by omega, by omega⟩
  · rw [if_neg h92] at h ⊢
    cases h
    exact ⟨rfl, by omega, by omega⟩
theorem str_err {l : List Nat} {b q : Nat} {acc : List Nat} {e : Nat × List Nat} (hb : b < l.length) (hc : l[b]? ≠ some 34) (h : partG l b = .inr e) : strG (l.drop b) b q acc = .inr e := by
  have eg := List.getElem?_eq_getElem hb
  generalize l[b] = c at eg
  have hd := drop_get eg
  have hc34 : ¬ c = 34 := fun z => hc (by rw [eg, z])
  unfold partG at h
  rw [hd] at h ⊢
  dsimp only at h
  rw [strG_cons, if_neg hc34]
  by_cases h92 : c = 92
  · rw [if_pos h92] at h ⊢
    cases hr : l.drop (b + 1) with
    | nil => rw [hr] at h; cases h
    | cons d r =>
      rw [hr] at h
      dsimp only at h ⊢
      cases he : escOf d with
      | none => rw [he] at h; cases h; rfl
      | some e => rw [he] at h; cases h
  · rw [if_neg h92] at h
    cases h
theorem sum_app (ps : List (List Nat)) (t : List Nat) : ((ps ++ [t]).map (·.length)).sum = (ps.map (·.length)).sum + t.length := by
  rw [List.map_append, List.sum_append]
  simp
theorem part_len {l : List Nat} {b b2 : Nat} {t : List Nat} (h : partG l b = .inl (t, b2)) : t.length ≤ 1 := by
  unfold partG at h
  split at h
  · cases h; simp
  · split at h
    · split at h
      · cases h; simp
      · split at h
        · cases h; simp
        · cases h
    · cases h; simp
theorem pairD_inv {H : Hp} {v : V} {x : List Nat × Nat} (h : Dt H v (pairD x)) : ∃ a, v = .ref a ∧ H a = some (.tup [.str (S x.1), .int (x.2 : Int)]) := by
  obtain ⟨a, xs, rfl, ha, hx⟩ := Dt.tup_inv h
  cases hx with
  | cons h1 r1 =>
    cases r1 with
    | cons h2 r2 =>
      cases r2
      rw [h1.str_inv, h2.int_inv] at ha
      exact ⟨a, rfl, ha⟩
theorem tokD_inv {H : Hp} {v : V} {x : Tok3} (h : Dt H v (tokD x)) : ∃ a, v = .ref a ∧ H a = some (.tup [.str (S x.1), .str (S x.2.1), .int (x.2.2 : Int)]) := by
  obtain ⟨a, xs, rfl, ha, hx⟩ := Dt.tup_inv h
  cases hx with
  | cons h1 r1 =>
    cases r1 with
    | cons h2 r2 =>
      cases r2 with
      | cons h3 r3 =>
        cases r3
        rw [h1.str_inv, h2.str_inv, h3.int_inv] at ha
        exact ⟨a, rfl, ha⟩
theorem evd_tok {σ : L2.St} {H : Hp} {t1 t2 t3 : TE} {x : Tok3} (h1 : Ev t1 σ H (.str (S x.1))) (h2 : Ev t2 σ H (.str (S x.2.1))) (h3 : Ev t3 σ H (.int (x.2.2 : Int))) : EvD (tTup (tCons t1 (tCons t2 (tCons t3 tNil)))) σ H (tokD x) :=
  evd_tup (eda_cons (evd_str h1) (eda_cons (evd_str h2) (eda_cons (evd_int h3) eda_nil))) (by show 3 ≤ 100000; decide)
theorem ok__string {f : Addr} {fd : FuncData} (F : Fun K "_string" "_string" s__string f fd) (T : Tx mg) (G : Gx K mg) (C__string_part : Kn.ClX P w K mg base 3 "_string_part" (sp__string_part G)) (Z_InvalidRecipe : Kn.Xk P w K mg base 1 "InvalidRecipe" G.c_InvalidRecipe (sp_I4 K)) : FnOk P w K mg base (L2.CX P w) 4 f fd ["path", "number", "line", "start"] (sp__string G) := by
  refine F.okX sc__string (fun vs H Q E h => ?_) (fun cdv A outer s H vs Q E hr h => ?_)
  · obtain ⟨path, l, num, a, rfl, _⟩ := h
    rfl
  · obtain ⟨path, l, num, a, rfl, ⟨hp, hl, hn, ha⟩, hal, q, qe⟩ := h
    refine ⟨_, (pss_cons (ps_set (i := 4) sc__string.nd rfl (Or.inl rfl) (pe_lst pa_nil))
      (pss_cons (ps_set (i := 5) sc__string.nd rfl (Or.inl rfl) (pe_op op_add (pv 3) pe_int))
      (pss_cons (ps_while (passes_of rfl) (PW.pt (pw_and (pt_cmpR op_lt (pv 5) (pe_callB Kn.cr_lenStr (by rfl) T.b_len PySem.boot_len (pa_cons (pv 2) pa_nil)) (nomark _)) (pw_and1 (pt_cmpR op_ne (pe_ix ix_str (pv 2) (pv 5) (fun _ _ => rfl)) (C8.pe_gc (by rfl) T.c_QUOTE) (nomark _))))) (pss_cons (ps_asg (Kn.pe_clX C__string_part hr (by decide) (by rfl) (takes_of rfl rfl rfl rfl) (pa_cons (pv 0) (pa_cons (pv 1) (pa_cons (pv 2) (pa_cons (pv 5) pa_nil))))) (pg_tup rfl (pgs_cons (pg_name (i := 6) sc__string.nd rfl (Or.inl rfl)) (pgs_cons (pg_name (i := 5) sc__string.nd rfl (Or.inl rfl)) pgs_nil))))
      (pss_one (ps_expr (pe_bm PySem.F.plainAttrs_list PySem.F.slot_list_append PySem.F.type_list_append mt_append (pv 4) (pa_cons (pv 6) pa_nil))))))
      (pss_cons (ps_if (pt_cmpR op_ge (pv 5) (pe_callB Kn.cr_lenStr (by rfl) T.b_len PySem.boot_len (pa_cons (pv 2) pa_nil)) (nomark _)) (pss_one (Kn.ps_xk Z_InvalidRecipe hr (by decide) rfl (takes_of rfl rfl rfl rfl) (by rfl) (pa_cons (pv 0) (pa_cons (pv 1) (pa_cons (pe_op op_add (pv 3) pe_int) (pa_cons pe_str pa_nil)))))) pss_nil)
      (pss_one (ps_ret (pe_tup (pa_cons (Kn.pe_joinN (pe_join pe_str (pv 4))) (pa_cons (pe_op op_add (pv 5) pe_int) pa_nil))))))))), ?_⟩
    refine q_asgL (el_lst ea_nil (by decide)) fun p H1 np e1 hp1 => ?_
    refine q_asg (v := .int ((a + 1 : Nat) : Int)) (ev_addN (m := 1) (ev_var rfl) rfl) fun H2 e2 => ?_
    generalize hR : strG (l.drop (a + 1)) (a + 1) a [] = R at q qe
    refine q_while (fun m σ' H' => ∃ (b : Nat) (ps : List (List Nat)) (y : Option V), m = l.length + 2 - b ∧ σ' = [some (.str (S path)), some (.int (num : Int)), some (.str (S l)), some (.int (a : Int)), some (.ref p), some (.int (b : Int)), y] ∧ Ex H H' ∧ H' p = some (.lst (ps.map fun t => V.str (S t))) ∧ b ≤ l.length + 1 ∧ ps.length ≤ b ∧ (ps.map (·.length)).sum ≤ b ∧ strG (l.drop b) b a ps.flatten = R) (l.length + 2 - (a + 1)) ⟨a + 1, [], _, rfl, rfl, e1.trans e2, e2 _ _ hp1, by omega, by show 0 ≤ _; omega, by show 0 ≤ _; omega, hR⟩ ?_
    rintro m σ' H3 ⟨b, ps, y, rfl, rfl, e3, hp3, hb1, hps, hsum, hR3⟩
    refine ⟨decide ((b : Int) < (l.length : Int)) && !decide (l[b]? = some 34), et_and (et_test (ev_op (ev_var rfl) (ev_cb (ea_cons (ev_var rfl) ea_nil) (rc_lenS (by omega))) rv_lt)) fun h => ?_, fun h H4 e4 => ?_, fun h H4 e4 => ?_⟩
    · have hlt : b < l.length := by
        have := of_decide_eq_true h
        omega
      have e := List.getElem?_eq_getElem hlt
      rw [e]
      exact et_is (et_test (ev_op (ev_idxS (ev_var rfl) (ev_var rfl) (by omega) (atI_nat e)) (ev_cS (l := [34]) rfl) rv_neS)) (by simp)
    · rw [Bool.and_eq_true, decide_eq_true_eq, Bool.not_eq_true', decide_eq_false_iff_not] at h
      obtain ⟨hlt, hq⟩ := h
      have hlt : b < l.length := by omega
      refine ⟨fun σ' H' => ∃ (b2 : Nat) (t : List Nat), b < b2 ∧ b2 ≤ b + 2 ∧ t.length ≤ 1 ∧ σ' = [some (.str (S path)), some (.int (num : Int)), some (.str (S l)), some (.int (a : Int)), some (.ref p), some (.int (b2 : Int)), some (.str (S t))] ∧ Ex H H' ∧ H' p = some (.lst ((ps ++ [t]).map fun t => V.str (S t))) ∧ strG (l.drop b2) b2 a (ps ++ [t]).flatten = R, ?_, ?_⟩
      · rintro σ2 H5 ⟨b2, t, z1, z2, z3, z4, z5, z6, z7⟩
        refine ⟨l.length + 2 - b2, by omega, b2, ps ++ [t], _, rfl, z4, z5, z6, by omega, ?_, ?_, z7⟩
        · rw [List.length_append, List.length_singleton]
          omega
        · rw [sum_app]
          omega
      · refine q_asgS (ea_cons (ev_var rfl) (ea_cons (ev_var rfl) (ea_cons (ev_var rfl) (ea_cons (ev_var rfl) ea_nil)))) fun H5 e5 => ?_
        have e35 := (e3.trans e4).trans e5
        refine ⟨path, l, num, b, rfl, ⟨hp, hl, hn, by omega⟩, hlt, fun x hx v H6 e6 hv => ?_, fun c why hx d H' e hd => qe c why ?_ d H' (e35.trans e) hd⟩
        · obtain ⟨t, b2⟩ := x
          obtain ⟨h1, h2, h3⟩ := str_part (q := a) (acc := ps.flatten) hlt hq hx
          obtain ⟨ar, rfl, har⟩ := pairD_inv hv
          refine unp2 har ?_
          refine s_app (xs := ps.map fun t => V.str (S t)) (e6 _ _ (e5 _ _ (e4 _ _ hp3))) (ev_var rfl) (ev_var rfl) (by rw [List.length_map]; omega) fun H7 e7 => ⟨b2, t, h2, h3, part_len hx, rfl, Ex.mut ((e35.trans e6).trans e7) np, ?_, ?_⟩
          · rw [List.map_append]
            exact upd_same
          · rw [← hR3, h1, List.flatten_append]
            simp
        · rw [← hR3]
          exact str_err hlt hq hx
    · refine q_when (b := decide ((l.length : Int) ≤ (b : Int))) (et_test (ev_op (ev_var rfl) (ev_cb (ea_cons (ev_var rfl) ea_nil) (rc_lenS (by omega))) rv_ge)) (fun hb H5 e5 => ?_) fun hb H5 e5 => ?_
      · have hge : l.length ≤ b := by
          have := of_decide_eq_true hb
          omega
        have hR4 : R = .inr (a + 1, unt) := by
          rw [← hR3, List.drop_of_length_le hge, strG_nil]
        exact raise4 (W := fun cls d _ H => E cls d H) (n := num) (c := a + 1) G.x_InvalidRecipe.oe (nf4 G) ⟨hp, by decide +kernel, hn, by omega⟩ (ev_var rfl) (ev_var rfl) (ev_addN (m := 1) (ev_var rfl) rfl) (ev_cS (l := unt) rfl) fun d2 H' e hd2 => qe _ _ hR4 d2 H' (((e3.trans e4).trans e5).trans e) hd2
      · have hlt : b < l.length := by
          have := of_decide_eq_false hb
          omega
        have h34 : l[b]? = some 34 := by
          rw [decide_eq_true (show (b : Int) < (l.length : Int) by omega), Bool.true_and, Bool.not_eq_false', decide_eq_true_eq] at h
          exact h
        have hR4 : R = .inl (ps.flatten, b + 1) := by
          rw [← hR3, drop_get h34, strG_cons, if_pos rfl]
        refine s_retD (evd_pair (ev_is (ev_joinV (s := []) (ys := ps) (ev_cS (l := []) rfl) (ev_var rfl) (sq_of (e5 _ _ (e4 _ _ hp3))) (by rw [List.length_nil, Nat.mul_zero]; omega)) (by rw [Kn.join_nil])) (ev_addN (m := 1) (ev_var rfl) rfl)) ((q _ hR4).mono ((e3.trans e4).trans e5))
def tokD3 (x : Tok3) : PyData := tokD x
def sp__token (G : Gx K mg) : Sp := fun vs H Q E => ∃ (path l : List Nat) (num a : Nat), vs = [.str (S path), .int (num : Int), .str (S l), .int (a : Int)] ∧ ScA path l num a ∧ a < l.length ∧ Rd_ tokD H Q E G.c_InvalidRecipe path num (tokG l a)
theorem tw_step {p : Nat → Bool} {l : List Nat} {a b c : Nat} (h : l[b]? = some c) (hp : p c = true) (hab : a ≤ b) (hw : (l.drop a).takeWhile p = (l.drop a).take (b - a) ++ (l.drop b).takeWhile p) : (l.drop a).takeWhile p = (l.drop a).take (b + 1 - a) ++ (l.drop (b + 1)).takeWhile p := by
  rw [hw, drop_get h, List.takeWhile_cons, hp]
  have e : (l.drop a).take (b + 1 - a) = (l.drop a).take (b - a) ++ [c] := by
    rw [show b + 1 - a = (b - a) + 1 by omega, List.take_add_one, List.getElem?_drop, show a + (b - a) = b by omega, h]
    rfl
  rw [e]
  simp
theorem ok__token {f : Addr} {fd : FuncData} (F : Fun K "_token" "_token" s__token f fd) (T : Tx mg) (G : Gx K mg) (C__string : Kn.ClX P w K mg base 4 "_string" (sp__string G)) : FnOk P w K mg base (L2.CX P w) 5 f fd ["path", "number", "line", "start"] (sp__token G) := by
  refine F.okX sc__token (fun vs H Q E h => ?_) (fun cdv A outer s H vs Q E hr h => ?_)
  · obtain ⟨path, l, num, a, rfl, _⟩ := h
    rfl
  · obtain ⟨path, l, num, a, rfl, ⟨hp, hl, hn, ha⟩, hal, q, qe⟩ := h
    refine ⟨_, (pss_cons (ps_if (pt_cmpR op_eq (pe_ix ix_str (pv 2) (pv 3) (fun _ _ => rfl)) (C8.pe_gc (by rfl) T.c_QUOTE) (nomark _)) (pss_cons (ps_asg (Kn.pe_clX C__string hr (by decide) (by rfl) (takes_of rfl rfl rfl rfl) (pa_cons (pv 0) (pa_cons (pv 1) (pa_cons (pv 2) (pa_cons (pv 3) pa_nil))))) (pg_tup rfl (pgs_cons (pg_name (i := 4) sc__token.nd rfl (Or.inl rfl)) (pgs_cons (pg_name (i := 5) sc__token.nd rfl (Or.inl rfl)) pgs_nil))))
      (pss_one (ps_ret (pe_tup (pa_cons pe_str (pa_cons (pv 4) (pa_cons (pv 5) pa_nil))))))) pss_nil)
      (pss_cons (ps_if (pt_cmpR op_inS (pe_ix ix_str (pv 2) (pv 3) (fun _ _ => rfl)) (C8.pe_gc (by rfl) T.c_SIGNS) rfl) (pss_one (ps_ret (pe_tup (pa_cons pe_str (pa_cons (pe_ix ix_str (pv 2) (pv 3) (fun _ _ => rfl)) (pa_cons (pe_op op_add (pv 3) pe_int) pa_nil)))))) pss_nil)
      (pss_cons (ps_set (i := 5) sc__token.nd rfl (Or.inl rfl) (pv 3))
      (pss_cons (ps_while (passes_of rfl) (PW.pt (pw_and (pt_cmpR op_lt (pv 5) (pe_callB Kn.cr_lenStr (by rfl) T.b_len PySem.boot_len (pa_cons (pv 2) pa_nil)) (nomark _)) (pw_and1 (pt_cmpR op_notInS (pe_ix ix_str (pv 2) (pv 5) (fun _ _ => rfl)) (C8.pe_gc (by rfl) T.c_WORD_ENDS) rfl)))) (pss_one (ps_aug (i := 5) sc__token.nd rfl (Or.inl rfl) pe_int ip_add)))
      (pss_one (ps_ret (pe_tup (pa_cons pe_str (pa_cons (pe_slice sl_str (pv 2) (po_some (pv 3)) (po_some (pv 5))) (pa_cons (pv 5) pa_nil)))))))))), ?_⟩
    have eg := List.getElem?_eq_getElem hal
    generalize l[a] = c at eg
    have hd := drop_get eg
    refine q_when (b := decide (c = 34)) (et_test (ev_is (ev_op (ev_idxS (ev_var rfl) (ev_var rfl) (by omega) (atI_nat eg)) (ev_cS (l := [34]) rfl) rv_eqS) (by simp))) (fun hb H1 e1 => ?_) fun hb H1 e1 => ?_
    · have hc := of_decide_eq_true hb
      refine q_asgS (ea_cons (ev_var rfl) (ea_cons (ev_var rfl) (ea_cons (ev_var rfl) (ea_cons (ev_var rfl) ea_nil)))) fun H2 e2 => ?_
      refine ⟨path, l, num, a, rfl, ⟨hp, hl, hn, ha⟩, hal, fun x hx v H3 e3 hv => ?_, fun c2 why hx d H' e hd2 => qe c2 why ?_ d H' ((e1.trans e2).trans e) hd2⟩
      · obtain ⟨t, b2⟩ := x
        obtain ⟨ar, rfl, har⟩ := pairD_inv hv
        refine unp2 har ?_
        have hr2 : tokG l a = .inl (kStr, t, b2) := by unfold tokG; rw [hd]; dsimp only; rw [if_pos hc, hx]
        exact s_retD (evd_tok (x := (kStr, t, b2)) (ev_cS rfl) (ev_var rfl) (ev_var rfl)) ((q _ hr2).mono ((e1.trans e2).trans e3))
      · unfold tokG
        rw [hd]
        dsimp only
        rw [if_pos hc, hx]
    have hc := of_decide_eq_false hb
    refine q_when (b := decide (c ∈ SGN)) (et_test (ev_op (ev_idxS (ev_var rfl) (ev_var rfl) (by omega) (atI_nat eg)) (ev_cS (l := SGN) rfl) rv_inS)) (fun hb2 H2 e2 => ?_) fun hb2 H2 e2 => ?_
    · have hr2 : tokG l a = .inl (kSig, [c], a + 1) := by unfold tokG; rw [hd]; dsimp only; rw [if_neg hc, if_pos (of_decide_eq_true hb2)]
      exact s_retD (evd_tok (x := (kSig, [c], a + 1)) (ev_cS rfl) (ev_idxS (ev_var rfl) (ev_var rfl) (by omega) (atI_nat eg)) (ev_addN (m := 1) (ev_var rfl) rfl)) ((q _ hr2).mono (e1.trans e2))
    have hc2 := of_decide_eq_false hb2
    have hr2 : tokG l a = .inl (kWrd, wordG l a, a + (wordG l a).length) := by unfold tokG; rw [hd]; dsimp only; rw [if_neg hc, if_neg hc2]
    replace q := q _ hr2
    refine q_asg (ev_var rfl) fun H3 e3 => ?_
    refine q_while (fun m σ' H' => ∃ (b : Nat), m = l.length - b ∧ σ' = [some (.str (S path)), some (.int (num : Int)), some (.str (S l)), some (.int (a : Int)), none, some (.int (b : Int))] ∧ Ex H H' ∧ a ≤ b ∧ b ≤ l.length ∧ wordG l a = (l.drop a).take (b - a) ++ (l.drop b).takeWhile fun c => !decide (c ∈ WEN)) (l.length - a) ⟨a, rfl, rfl, (e1.trans e2).trans e3, Nat.le_refl _, by omega, by rw [Nat.sub_self, List.take_zero]; rfl⟩ ?_
    rintro m σ' H4 ⟨b, rfl, rfl, e4, hab, hbl, hw⟩
    refine ⟨decide ((b : Int) < (l.length : Int)) && !decide ((l[b]?.getD 0) ∈ WEN), et_and (et_test (ev_op (ev_var rfl) (ev_cb (ea_cons (ev_var rfl) ea_nil) (rc_lenS (by omega))) rv_lt)) fun h => ?_, fun h H5 e5 => ?_, fun h H5 e5 => ?_⟩
    · have hlt : b < l.length := by
        have := of_decide_eq_true h
        omega
      have e := List.getElem?_eq_getElem hlt
      rw [e]
      exact et_test (ev_op (ev_idxS (ev_var rfl) (ev_var rfl) (by omega) (atI_nat e)) (ev_cS (l := WEN) rfl) rv_ninS)
    · rw [Bool.and_eq_true, decide_eq_true_eq] at h
      have hlt : b < l.length := by omega
      have e := List.getElem?_eq_getElem hlt
      rw [e] at h
      refine ⟨fun σ' H' => σ' = [some (.str (S path)), some (.int (num : Int)), some (.str (S l)), some (.int (a : Int)), none, some (.int ((b : Int) + 1))] ∧ Ex H H', fun σ2 H6 ⟨z1, z2⟩ => ⟨l.length - (b + 1), by omega, b + 1, rfl, by rw [z1, Int.natCast_add]; rfl, z2, by omega, by omega, tw_step e h.2 hab hw⟩, ?_⟩
      exact s_aug (a := (b : Int)) (b := 1) rfl ev_c fun H6 e6 => ⟨rfl, (e4.trans e5).trans e6⟩
    · have hw2 : wordG l a = (l.drop a).take (b - a) := by
        rw [hw]
        by_cases hlt : b < l.length
        · have e := List.getElem?_eq_getElem hlt
          rw [decide_eq_true (show (b : Int) < (l.length : Int) by omega), e] at h
          rw [drop_get e, List.takeWhile_cons, show (!decide (l[b] ∈ WEN)) = false from h]
          simp
        · rw [List.drop_of_length_le (show l.length ≤ b by omega)]
          simp
      have hlen : a + (wordG l a).length = b := by
        rw [hw2, List.length_take, List.length_drop]
        omega
      refine s_retD (evd_tok (x := (kWrd, wordG l a, a + (wordG l a).length)) (ev_cS rfl) (ev_is (ev_slS (ev_var rfl) (eo_some (ev_var rfl)) (eo_some (ev_var rfl)) (by omega)) (by rw [cutS_nat, hw2])) (ev_is (ev_var rfl) (by rw [hlen]))) (q.mono (e4.trans e5))
end

section
variable {P : Program} {w : World} {K : PySem.W.Frag} {mg : Str → Option Value} {base : Heap}
def toksD (x : List Tok3) : PyData := .list (x.map tokD)
def sp_scan_line (G : Gx K mg) : Sp := fun vs H Q E => ∃ (path l : List Nat) (num : Nat), vs = [.str (S path), .int (num : Int), .str (S l)] ∧ ScA path l num 0 ∧ Rd_ toksD H Q E G.c_InvalidRecipe path num (scan l)
theorem strG_ge : ∀ (n : Nat) (r : List Nat) (b q : Nat) (acc : List Nat) (t : List Nat) (e : Nat), r.length ≤ n → strG r b q acc = .inl (t, e) → b < e ∧ e ≤ b + r.length
  | 0, [], _, _, _, _, _, _, h => by rw [strG_nil] at h; cases h
  | n + 1, [], _, _, _, _, _, _, h => by rw [strG_nil] at h; cases h
  | n + 1, c :: r, b, q, acc, t, e, hn, h => by
    rw [List.length_cons] at hn ⊢
    rw [strG_cons] at h
    split at h
    · cases h
      omega
    · split at h
      · cases r with
        | nil => cases h
        | cons d r' =>
          dsimp only at h
          cases he : escOf d with
          | none => rw [he] at h; cases h
          | some x =>
            rw [he] at h
            rw [List.length_cons] at hn ⊢
            have := strG_ge n r' (b + 2) q _ t e (by omega) h
            omega
      · have := strG_ge n r (b + 1) q _ t e (by omega) h
        omega
theorem tok_ge {l : List Nat} {a : Nat} (ha : a < l.length) (hs : l[a]? ≠ some 32) {x : Tok3} (h : tokG l a = .inl x) : a < x.2.2 ∧ x.2.2 ≤ l.length := by
  have eg := List.getElem?_eq_getElem ha
  generalize l[a] = c at eg
  have hd := drop_get eg
  have hdl : (l.drop (a + 1)).length = l.length - (a + 1) := List.length_drop
  unfold tokG at h
  rw [hd] at h
  dsimp only at h
  split at h
  · split at h
    · next t b hr =>
      cases h
      have := strG_ge _ _ _ _ _ _ _ (Nat.le_refl _) hr
      rw [hdl] at this
      show a < b ∧ b ≤ l.length
      omega
    · cases h
  · next hc =>
    split at h
    · cases h
      show a < a + 1 ∧ a + 1 ≤ l.length
      omega
    · next hc2 =>
      cases h
      have h1 : (wordG l a).length ≤ l.length - a := by
        have := (List.takeWhile_sublist (fun c => !decide (c ∈ WEN)) (l := l.drop a)).length_le
        rw [List.length_drop] at this
        exact this
      have h2 : 0 < (wordG l a).length := by
        unfold wordG
        rw [hd, List.takeWhile_cons]
        have hw : c ∉ WEN := fun z => by
          have hcase : ∀ c ∈ WEN, c = 32 ∨ c = 34 ∨ c ∈ SGN := by decide +kernel
          rcases hcase c z with y | y | y
          · exact hs (by rw [eg, y])
          · exact hc y
          · exact hc2 y
        rw [decide_eq_false hw]
        simp
      show a < a + (wordG l a).length ∧ _
      constructor
      · omega
      · show a + (wordG l a).length ≤ l.length
        omega
theorem skip_le (l : List Nat) {a : Nat} (h : a ≤ l.length) : skip l a ≤ l.length := by
  unfold skip
  have := (List.takeWhile_sublist (fun c => decide (c = 32)) (l := l.drop a)).length_le
  rw [List.length_drop] at this
  omega
theorem skip_ns (l : List Nat) (a : Nat) : l[skip l a]? ≠ some 32 := by
  unfold skip
  intro h
  have e : l[a + ((l.drop a).takeWhile fun c => decide (c = 32)).length]? = (l.drop a)[((l.drop a).takeWhile fun c => decide (c = 32)).length]? := by rw [List.getElem?_drop]
  rw [e] at h
  generalize l.drop a = r at h
  induction r with
  | nil => simp at h
  | cons c r ih =>
    rw [List.takeWhile_cons] at h
    by_cases hc : c = 32
    · rw [decide_eq_true hc] at h
      exact ih (by simpa using h)
    · rw [decide_eq_false hc] at h
      simp at h
      exact hc h
theorem scan_enough {l : List Nat} : ∀ (n m a : Nat) (acc : List Tok3), l[a]? ≠ some 32 → l.length - a ≤ n → l.length - a ≤ m → scanG l n a acc = scanG l m a acc
  | 0, 0, _, _, _, _, _ => rfl
  | 0, m + 1, a, acc, _, h1, _ => by
    unfold scanG
    rw [if_neg (by omega)]
  | n + 1, 0, a, acc, _, _, h2 => by
    conv => lhs; unfold scanG
    conv => rhs; unfold scanG
    rw [if_neg (by omega)]
  | n + 1, m + 1, a, acc, hs, h1, h2 => by
    conv => lhs; unfold scanG
    conv => rhs; unfold scanG
    by_cases ha : a < l.length
    · rw [if_pos ha, if_pos ha]
      cases ht : tokG l a with
      | inr e => rfl
      | inl x =>
        obtain ⟨k, t, b⟩ := x
        have := tok_ge ha hs ht
        have hg := skip_ge l b
        exact scan_enough n m (skip l b) _ (skip_ns l b) (by dsimp only at this; omega) (by dsimp only at this; omega)
    · rw [if_neg ha, if_neg ha]
theorem ok_scan_line {f : Addr} {fd : FuncData} (F : Fun K "scan_line" "scan_line" s_scan_line f fd) (T : Tx mg) (G : Gx K mg) (C__skip_spaces : Kn.Cl P w K mg base 1 "_skip_spaces" (sp__skip_spaces K)) (C__token : Kn.ClX P w K mg base 5 "_token" (sp__token G)) : FnOk P w K mg base (L2.CX P w) 6 f fd ["path", "number", "line"] (sp_scan_line G) := by
  refine F.okX sc_scan_line (fun vs H Q E h => ?_) (fun cdv A outer s H vs Q E hr h => ?_)
  · obtain ⟨path, l, num, rfl, _⟩ := h
    rfl
  · obtain ⟨path, l, num, rfl, ⟨hp, hl, hn, _⟩, q, qe⟩ := h
    refine ⟨_, (pss_cons (ps_if (pt_val (pe_m1 PySem.F.slot_str_startswith PySem.F.type_str_startswith Kn.mt_startswith (pe_m1 PySem.F.slot_str_lstrip PySem.F.type_str_lstrip Kn.mt_lstripC (pv 2) pe_str) pe_str)) (pss_one (ps_ret (pe_lst pa_nil))) pss_nil)
      (pss_cons (ps_set (i := 3) sc_scan_line.nd rfl (Or.inl rfl) (pe_lst pa_nil))
      (pss_cons (ps_set (i := 4) sc_scan_line.nd rfl (Or.inl rfl) (Kn.pe_cl C__skip_spaces hr (by decide) (by rfl) (pa_cons (pv 2) (pa_cons pe_int pa_nil))))
      (pss_cons (ps_while (passes_of rfl) (pt_cmpR op_lt (pv 4) (pe_callB Kn.cr_lenStr (by rfl) T.b_len PySem.boot_len (pa_cons (pv 2) pa_nil)) (nomark _)) (pss_cons (ps_asg (Kn.pe_clX C__token hr (by decide) (by rfl) (takes_of rfl rfl rfl rfl) (pa_cons (pv 0) (pa_cons (pv 1) (pa_cons (pv 2) (pa_cons (pv 4) pa_nil))))) (pg_tup rfl (pgs_cons (pg_name (i := 5) sc_scan_line.nd rfl (Or.inl rfl)) (pgs_cons (pg_name (i := 6) sc_scan_line.nd rfl (Or.inl rfl)) (pgs_cons (pg_name (i := 7) sc_scan_line.nd rfl (Or.inl rfl)) pgs_nil)))))
      (pss_cons (ps_expr (pe_bm PySem.F.plainAttrs_list PySem.F.slot_list_append PySem.F.type_list_append mt_append (pv 3) (pa_cons (pe_tup (pa_cons (pv 5) (pa_cons (pv 6) (pa_cons (pe_op op_add (pv 4) pe_int) pa_nil)))) pa_nil)))
      (pss_one (ps_set (i := 4) sc_scan_line.nd rfl (Or.inl rfl) (Kn.pe_cl C__skip_spaces hr (by decide) (by rfl) (pa_cons (pv 2) (pa_cons (pv 7) pa_nil))))))))
      (pss_one (ps_ret (pv 3))))))), ?_⟩
    refine q_when (b := isRem l) (et_B (ev_starts (c := 35) (ev_lstrip (ev_var rfl) (ev_cS (l := [32]) rfl) (by omega)) (ev_cS (l := [35]) rfl))) (fun hb H1 e1 => ?_) fun hb H1 e1 => ?_
    · have hr2 : scan l = .inl [] := by unfold scan; rw [if_pos hb]
      exact s_retD (evd_lst eda_nil (by decide)) ((q _ hr2).mono e1)
    have hsc : scan l = scanG l l.length (skip l 0) [] := by unfold scan; rw [if_neg (by rw [hb]; decide)]
    rw [hsc] at q qe
    refine q_asgL (el_lst ea_nil (by decide)) fun p H2 np e2 hp2 => ?_
    refine q_asg (v := .int ((skip l 0 : Nat) : Int)) (ev_c2 (a := l) (b := 0) (ea_cons (ev_var rfl) (ea_cons ev_c ea_nil)) fun _ _ => hl) fun H3 e3 => ?_
    generalize hR : scanG l l.length (skip l 0) [] = R at q qe
    have e13 := (e1.trans e2).trans e3
    refine q_while (fun m σ' H' => ∃ (b : Nat) (ts : List Tok3) (vs : List V) (y5 y6 y7 : Option V), m = l.length - b ∧ σ' = [some (.str (S path)), some (.int (num : Int)), some (.str (S l)), some (.ref p), some (.int (b : Int)), y5, y6, y7] ∧ Ex H H' ∧ H' p = some (.lst vs) ∧ DtA H' vs (ts.map tokD) ∧ l[b]? ≠ some 32 ∧ b ≤ l.length ∧ ts.length ≤ b ∧ scanG l (l.length - b) b ts = R) (l.length - skip l 0) ⟨skip l 0, [], [], _, _, _, rfl, rfl, e13, e3 _ _ hp2, .nil, skip_ns l 0, skip_le l (Nat.zero_le _), Nat.zero_le _, by rw [← hR]; exact scan_enough _ _ _ _ (skip_ns l 0) (Nat.le_refl _) (by omega)⟩ ?_
    rintro m σ' H4 ⟨b, ts, vs, y5, y6, y7, rfl, rfl, e4, hp4, hD, hns, hb1, hts, hR4⟩
    refine ⟨decide ((b : Int) < (l.length : Int)), et_test (ev_op (ev_var rfl) (ev_cb (ea_cons (ev_var rfl) ea_nil) (rc_lenS (by omega))) rv_lt), fun h H5 e5 => ?_, fun h H5 e5 => ?_⟩
    · have hlt : b < l.length := by
        have := of_decide_eq_true h
        omega
      have hstep : scanG l (l.length - b) b ts = (match tokG l b with
          | .inl (k, t, b2) => scanG l (l.length - b - 1) (skip l b2) (ts ++ [(k, t, b + 1)])
          | .inr e => .inr e) := by
        rw [show l.length - b = (l.length - b - 1) + 1 by omega]
        conv => lhs; unfold scanG
        rw [if_pos hlt]
        rfl
      refine ⟨fun σ' H' => ∃ (b2 : Nat) (x : Tok3) (vs : List V) (y5 y6 y7 : Option V), b < b2 ∧ σ' = [some (.str (S path)), some (.int (num : Int)), some (.str (S l)), some (.ref p), some (.int (b2 : Int)), y5, y6, y7] ∧ Ex H H' ∧ H' p = some (.lst vs) ∧ DtA H' vs ((ts ++ [x]).map tokD) ∧ l[b2]? ≠ some 32 ∧ b2 ≤ l.length ∧ scanG l (l.length - b2) b2 (ts ++ [x]) = R, ?_, ?_⟩
      · rintro σ2 H6 ⟨b2, x, vs2, z5, z6, z7, g1, g2, g3, g4, g5, g6, g7, g8⟩
        exact ⟨l.length - b2, by omega, b2, ts ++ [x], vs2, z5, z6, z7, rfl, g2, g3, g4, g5, g6, g7, by rw [List.length_append, List.length_singleton]; omega, g8⟩
      · refine q_asgS (ea_cons (ev_var rfl) (ea_cons (ev_var rfl) (ea_cons (ev_var rfl) (ea_cons (ev_var rfl) ea_nil)))) fun H6 e6 => ?_
        have e46 := (e4.trans e5).trans e6
        refine ⟨path, l, num, b, rfl, ⟨hp, hl, hn, by omega⟩, hlt, fun x hx v H7 e7 hv => ?_, fun c why hx d H' e hd => qe c why ?_ d H' (e46.trans e) hd⟩
        · obtain ⟨k, t, b2⟩ := x
          obtain ⟨ar, rfl, har⟩ := tokD_inv hv
          have hge := tok_ge hlt hns hx
          dsimp only at hge
          refine unp3 har ?_
          have hp7 := e7 _ _ (e6 _ _ (e5 _ _ hp4))
          have hD7 := ((hD.mono e5).mono e6).mono e7
          have hvl : vs.length = ts.length := by
            have := hD.len
            rw [List.length_map] at this
            exact this
          refine q_appD (d := tokD (k, t, b + 1)) hp7 (ev_var rfl) (evd_tok (x := (k, t, b + 1)) (ev_var rfl) (ev_var rfl) (ev_addN (m := 1) (ev_var rfl) rfl)) (by omega) fun v8 H8 e8 hv8 => ?_
          have eF := Ex.mut (o := .lst (vs ++ [v8])) ((e46.trans e7).trans e8) (fresh_back e1 np)
          have hD9 := dta_app (e8 _ _ hp7) (hD7.mono e8) hv8 (noLA_map (fun _ => rfl) ts) rfl
          refine s_asg (v := .int ((skip l b2 : Nat) : Int)) (ev_c2 (a := l) (b := b2) (ea_cons (ev_var rfl) (ea_cons (ev_var rfl) ea_nil)) fun _ _ => hl) fun H9 e9 => ⟨skip l b2, (k, t, b + 1), vs ++ [v8], _, _, _, ?_, rfl, eF.trans e9, e9 _ _ upd_same, ?_, skip_ns l b2, skip_le l hge.2, ?_⟩
          · have := skip_ge l b2
            omega
          · rw [List.map_append]
            exact hD9.mono e9
          · rw [← hR4, hstep, hx]
            dsimp only
            exact scan_enough _ _ _ _ (skip_ns l b2) (Nat.le_refl _) (by have := skip_ge l b2; omega)
        · rw [← hR4, hstep, hx]
    · have hge : ¬ b < l.length := by
        have := of_decide_eq_false h
        omega
      have hR5 : R = .inl ts := by
        rw [← hR4, show l.length - b = 0 by omega]
        rfl
      exact s_retD (evd_of (ev_var rfl) (.lst (e5 _ _ hp4) (hD.mono e5))) ((q _ hR5).mono (e4.trans e5))
end

section
theorem scan_stop {l : List Nat} {b : Nat} (h : l.length ≤ b) (n : Nat) (ts : List Tok3) : scanG l n b ts = .inl ts := by
  cases n with
  | zero => rfl
  | succ n =>
    unfold scanG
    rw [if_neg (by omega)]
theorem scan_tok {l : List Nat} {b : Nat} {ts : List Tok3} {k t : List Nat} {b2 : Nat} (hb : b < l.length) (hs : l[b]? ≠ some 32) (ht : tokG l b = .inl (k, t, b2)) : scanG l l.length (skip l b) ts = scanG l l.length (skip l b2) (ts ++ [(k, t, b + 1)]) := by
  have h1 := tok_ge hb hs ht
  dsimp only at h1
  have h2 := skip_ge l b2
  rw [skip_end (fun z => hs z.2)]
  have e : scanG l l.length b ts = scanG l (l.length - 1) (skip l b2) (ts ++ [(k, t, b + 1)]) := by
    rw [show l.length = (l.length - 1) + 1 by omega]
    conv => lhs; unfold scanG
    rw [if_pos (by omega), ht]
    rfl
  rw [e]
  exact scan_enough _ _ _ _ (skip_ns l b2) (by omega) (by omega)
end
section
def eO (c : Nat) : List Nat := if c = 10 then [92, 110] else if c = 34 ∨ c = 92 then [92, c] else [c]
def fm (l : List Nat) : List Nat := l.flatMap eO
def wr (l : List Nat) : List Nat := [34] ++ fm l ++ [34]
theorem fm_cons (c : Nat) (r : List Nat) : fm (c :: r) = eO c ++ fm r := List.flatMap_cons
theorem sub1_app (c : Nat) (z a b : List Nat) : sub1 c z (a ++ b) = sub1 c z a ++ sub1 c z b := List.flatMap_append
theorem sub1_ne {c e : Nat} {z : List Nat} (h : e ≠ c) : sub1 c z [e] = [e] := by
  unfold sub1
  rw [List.flatMap_cons, if_neg h]
  rfl
theorem sub_comp : ∀ l : List Nat, sub1 10 [92, 110] (sub1 34 [92, 34] (sub1 92 [92, 92] l)) = fm l
  | [] => rfl
  | e :: r => by
    rw [show e :: r = [e] ++ r from rfl, sub1_app, sub1_app, sub1_app, sub_comp r]
    show _ = fm (e :: r)
    rw [fm_cons]
    congr 1
    unfold eO
    by_cases h1 : e = 10
    · subst h1
      rfl
    · rw [if_neg h1]
      by_cases h2 : e = 34
      · subst h2
        rfl
      · by_cases h3 : e = 92
        · subst h3
          rfl
        · rw [if_neg (fun z => z.elim h2 h3), sub1_ne h3, sub1_ne h2, sub1_ne h1]
theorem eO_len (c : Nat) : (eO c).length ≤ 2 := by
  unfold eO
  split
  · decide
  · split
    · show 2 ≤ 2
      decide
    · show 1 ≤ 2
      decide
theorem sub1_len {c : Nat} {z : List Nat} (hz : z.length ≤ 2) : ∀ l : List Nat, (sub1 c z l).length ≤ 2 * l.length
  | [] => Nat.le_refl _
  | e :: r => by
    rw [show e :: r = [e] ++ r from rfl, sub1_app, List.length_append, List.length_append, List.length_singleton]
    have h := sub1_len (c := c) hz r
    have h2 : (sub1 c z [e]).length ≤ 2 := by
      unfold sub1
      rw [List.flatMap_cons, List.length_append]
      show _ + 0 ≤ 2
      split
      · exact hz
      · show 1 + 0 ≤ 2
        decide
    omega
theorem fm_len : ∀ l : List Nat, (fm l).length ≤ 2 * l.length
  | [] => Nat.le_refl _
  | c :: r => by
    rw [fm_cons, List.length_append, List.length_cons]
    have h1 := eO_len c
    have h2 := fm_len r
    omega
theorem wr_len (l : List Nat) : (wr l).length = (fm l).length + 2 := by
  unfold wr
  rw [List.length_append, List.length_append]
  show 1 + _ + 1 = _
  omega
theorem strG_fm : ∀ (t rest : List Nat) (b q : Nat) (acc : List Nat), strG (fm t ++ 34 :: rest) b q acc = .inl (acc ++ t, b + (fm t).length + 1)
  | [], rest, b, q, acc => by
    show strG (34 :: rest) b q acc = _
    rw [strG_cons, if_pos rfl, List.append_nil]
    rfl
  | c :: t, rest, b, q, acc => by
    rw [fm_cons, List.append_assoc, List.length_append]
    have fin : acc ++ [c] ++ t = acc ++ c :: t := by rw [List.append_assoc]; rfl
    unfold eO
    by_cases h1 : c = 10
    · subst h1
      rw [if_pos rfl]
      show strG (92 :: 110 :: (fm t ++ 34 :: rest)) b q acc = .inl (_, b + (2 + (fm t).length) + 1)
      rw [strG_cons, if_neg (by decide), if_pos rfl]
      show strG (fm t ++ 34 :: rest) (b + 2) q (acc ++ [10]) = _
      rw [strG_fm t rest, fin, show b + 2 + (fm t).length + 1 = b + (2 + (fm t).length) + 1 by omega]
    · rw [if_neg h1]
      by_cases h2 : c = 34
      · subst h2
        rw [if_pos (.inl rfl)]
        show strG (92 :: 34 :: (fm t ++ 34 :: rest)) b q acc = .inl (_, b + (2 + (fm t).length) + 1)
        rw [strG_cons, if_neg (by decide), if_pos rfl]
        show strG (fm t ++ 34 :: rest) (b + 2) q (acc ++ [34]) = _
        rw [strG_fm t rest, fin, show b + 2 + (fm t).length + 1 = b + (2 + (fm t).length) + 1 by omega]
      · by_cases h3 : c = 92
        · subst h3
          rw [if_pos (.inr rfl)]
          show strG (92 :: 92 :: (fm t ++ 34 :: rest)) b q acc = .inl (_, b + (2 + (fm t).length) + 1)
          rw [strG_cons, if_neg (by decide), if_pos rfl]
          show strG (fm t ++ 34 :: rest) (b + 2) q (acc ++ [92]) = _
          rw [strG_fm t rest, fin, show b + 2 + (fm t).length + 1 = b + (2 + (fm t).length) + 1 by omega]
        · rw [if_neg (fun z => z.elim h2 h3)]
          show strG (c :: (fm t ++ 34 :: rest)) b q acc = .inl (_, b + (1 + (fm t).length) + 1)
          rw [strG_cons, if_neg h2, if_neg h3, strG_fm t rest, fin, show b + 1 + (fm t).length + 1 = b + (1 + (fm t).length) + 1 by omega]
theorem tokG_str {l t rest : List Nat} {b : Nat} (h : l.drop b = wr t ++ rest) : tokG l b = .inl (kStr, t, b + (wr t).length) := by
  have e : wr t ++ rest = 34 :: (fm t ++ 34 :: rest) := by
    unfold wr
    rw [List.append_assoc, List.append_assoc]
    rfl
  unfold tokG
  rw [h, e]
  dsimp only
  rw [if_pos rfl, strG_fm, wr_len]
  show Sum.inl (kStr, [] ++ t, b + 1 + (fm t).length + 1) = _
  rw [List.nil_append, show b + 1 + (fm t).length + 1 = b + ((fm t).length + 2) by omega]
theorem tokG_w {l rest : List Nat} {b c : Nat} (h : l.drop b = c :: rest) (hc : c ≠ 34) (hs : c ∉ SGN) (hw : c ∉ WEN) (hr : rest = [] ∨ ∃ r, rest = 32 :: r) : tokG l b = .inl (kWrd, [c], b + 1) := by
  have e : wordG l b = [c] := by
    unfold wordG
    rw [h, List.takeWhile_cons, decide_eq_false hw]
    rcases hr with z | ⟨r, z⟩
    · subst z
      rfl
    · subst z
      rw [List.takeWhile_cons, show decide (32 ∈ WEN) = true by decide +kernel]
      rfl
  unfold tokG
  rw [h]
  dsimp only
  rw [if_neg hc, if_neg hs, e]
  rfl
theorem get_drop {l r : List Nat} {b c : Nat} (h : l.drop b = c :: r) : l[b]? = some c := by
  have e : (l.drop b)[0]? = some c := by rw [h]; rfl
  rw [List.getElem?_drop] at e
  exact e
theorem lt_drop {l r : List Nat} {b c : Nat} (h : l.drop b = c :: r) : b < l.length := by
  have e := congrArg List.length h
  rw [List.length_drop, List.length_cons] at e
  omega
end
section
variable {P : Program} {w : World} {K : PySem.W.Frag} {mg : Str → Option Value} {base : Heap}
def sp_format_string (_ : PySem.W.Frag) : Sp := sp1 (fun l : List Nat => [.str (S l)]) (fun l _ => l.length ≤ 9000) (fun l => .str (S (wr l)))
theorem ok_format_string {f : Addr} {fd : FuncData} (F : Fun K "format_string" "format_string" s_format_string f fd) (T : Tx mg) (G : Gx K mg)  : FnOk P w K mg base CX0 1 f fd ["text"] (sp_format_string K) := by
  refine okT F sc_format_string (by decide +kernel) (by decide) (fun vs H Q E h => ?_) (fun cdv A outer s H vs Q E hr h => ?_)
  · obtain ⟨l, rfl, _⟩ := h
    rfl
  · obtain ⟨l, rfl, hl, q⟩ := h
    refine ⟨_, (psst_cons (Kn.pst_set (i := 1) sc_format_string.nd rfl (Or.inl rfl) (CwR.pet_replT (CwR.pet_replT (CwR.pet_replC (pv 0)))))
      (psst_cons (PST.of (ps_ret (pe_op Kn.op_addS (pe_op Kn.op_addS pe_str (pv 1)) pe_str)))
      (PSsT.of pss_nil))), ?_⟩
    have l1 := sub1_len (c := 92) (z := [92, 92]) (by decide) l
    have l2 := sub1_len (c := 34) (z := [92, 34]) (by decide) (sub1 92 [92, 92] l)
    have l3 := fm_len l
    refine q_asg (v := .str (S (fm l))) (ev_is (ev_replA (c := 10) (z := [92, 110]) (ev_replA (c := 34) (z := [92, 34]) (ev_replA (c := 92) (z := [92, 92]) (ev_var rfl) rfl rfl (by omega) (by decide)) rfl rfl (by omega) (by decide)) rfl rfl (by omega) (by decide)) (by rw [sub_comp])) fun H1 e1 => ?_
    refine s_ret (v := .str (S (wr l))) (ev_op (ev_op (ev_cS (l := [34]) rfl) (ev_var rfl) (rv_addS (by show 1 + _ ≤ 100000; omega))) (ev_cS (l := [34]) rfl) (rv_addS (by rw [List.length_append]; show 1 + _ + 1 ≤ 100000; omega))) fun H2 e2 => q H2 (e1.trans e2)
end

section
variable {P : Program} {w : World} {K : PySem.W.Frag} {mg : Str → Option Value} {base : Heap}
def sp__law_cell (K : PySem.W.Frag) : Sp := sp3 (fun (a : Addr) (_ : List Int) (k : Nat) => [.ref a, .int (k : Int)]) (fun a ns _ H => SqL K H a (ns.map V.int)) (fun _ ns k => .int (L2.cellOf ns k))
theorem ok__law_cell {f : Addr} {fd : FuncData} (F : Fun K "_law_cell" "_law_cell" s__law_cell f fd) (T : Tx mg) (G : Gx K mg)  : FnOk P w K mg base CX0 1 f fd ["script", "k"] (sp__law_cell K) := by
  refine F.ok sc__law_cell (fun vs H Q E h => ?_) (fun cdv A outer s H vs Q E hr h => ?_)
  · obtain ⟨a, ns, k, rfl, _⟩ := h
    rfl
  · obtain ⟨a, ns, k, rfl, hS, q⟩ := h
    refine ⟨_, (pss_cons (ps_if (pt_cmpR op_lt (pv 1) (pe_callB Kn.cr_lenSeq (by rfl) T.b_len PySem.boot_len (pa_cons (pv 0) pa_nil)) (nomark _)) (pss_one (ps_ret (pe_callTy Kn.cr_int1 (by rfl) T.b_int (by decide +kernel) (pa_cons (pe_ix ix_list (pv 0) (pv 1) (fun _ _ => rfl)) pa_nil)))) pss_nil)
      (pss_one (ps_ret pe_int))), ?_⟩
    refine q_when (et_test (ev_op (ev_var rfl) (ev_len (ev_var rfl) hS) rv_lt)) (fun hb H1 e1 => ?_) (fun hb H1 e1 => ?_)
    · have hk : k < ns.length := by
        rw [List.length_map, decide_eq_true_eq] at hb
        omega
      exact s_ret (ev_cb (ea_cons (ev_op (ev_var rfl) (ev_var rfl) (rv_ixL (ex_l e1 hS) (atI_cell hk))) ea_nil) rc_int) fun H2 e2 => q H2 (e1.trans e2)
    · have hk : ¬ k < ns.length := by
        rw [List.length_map, decide_eq_false_iff_not] at hb
        omega
      refine s_ret ev_c fun H2 e2 => ?_
      have z : Q (.int (L2.cellOf ns k)) H2 := q H2 (e1.trans e2)
      rw [cell_out hk] at z
      exact z
theorem ev_cellA {σ : L2.St} {H : Hp} {a : Addr} {ns : List Int} {c : Nat} {ta : TA} (h : EvA ta σ H [.ref a, .int (c : Int)]) (hS : SqL K H a (ns.map V.int)) : Ev (tCB rAbs (tCons (tCall (sp__law_cell K) [] E0 ta) tNil)) σ H (.int (((L2.cellOf ns c).natAbs : Nat) : Int)) :=
  ev_cb (ea_cons (ev_c3 (a := a) (b := ns) (c := c) h fun H1 e1 => ex_l e1 hS) ea_nil) rc_abs

def drawStep (cell limit : Int) (k : Nat) (st : List Int × Int) : List Int × Int :=
  if (decide ((10 : Int) ^ (18 : Int).toNat ≤ (cell.natAbs : Int)) && decide (0 < st.2)) = true then (st.1 ++ [st.2 % limit], st.2 / limit)
  else (st.1 ++ [((((cell.natAbs : Int) * 48271 + (k : Int) * 69621 + 7) % 2147483647) * 16807 + (((cell.natAbs : Int) * 48271 + (k : Int) * 69621 + 7) % 2147483647) / 127 + (k : Int) * 31) % 2147483629 / 3 % limit], st.2)
def drawsTo (cell limit : Int) : Nat → List Int × Int
  | 0 => ([], (cell.natAbs : Int))
  | k + 1 => drawStep cell limit k (drawsTo cell limit k)
theorem drawsTo_len (c l : Int) : ∀ n, (drawsTo c l n).1.length = n
  | 0 => rfl
  | n + 1 => by
    show (drawStep c l n (drawsTo c l n)).1.length = n + 1
    unfold drawStep
    split <;> exact (List.length_append ..).trans (congrArg (· + 1) (drawsTo_len c l n))
theorem drawsTo_mem {c l : Int} (h : 0 < l) : ∀ n, ∀ d ∈ (drawsTo c l n).1, 0 ≤ d ∧ d < l
  | 0, _, hd => nomatch hd
  | n + 1, d, hd => by
    have hd' : d ∈ (drawStep c l n (drawsTo c l n)).1 := hd
    unfold drawStep at hd'
    have fin : ∀ x : Int, d = x % l → 0 ≤ d ∧ d < l := fun x e => by
      subst e
      exact ⟨Int.emod_nonneg _ (by omega), Int.emod_lt_of_pos _ h⟩
    split at hd'
    · rcases List.mem_append.mp hd' with z | z
      · exact drawsTo_mem h n d z
      · exact fin _ (List.mem_singleton.mp z)
    · rcases List.mem_append.mp hd' with z | z
      · exact drawsTo_mem h n d z
      · exact fin _ (List.mem_singleton.mp z)
def sp__law_draws (_ : PySem.W.Frag) : Sp := sl3 (fun c m l : Int => [.int c, .int m, .int l]) (fun _ m l _ => (0 ≤ m ∧ m ≤ 1000) ∧ 0 < l ∧ l < 10000) (fun c m l => (drawsTo c l m.toNat).1.map V.int)
theorem ok__law_draws {f : Addr} {fd : FuncData} (F : Fun K "_law_draws" "_law_draws" s__law_draws f fd) (T : Tx mg) (G : Gx K mg)  : FnOk P w K mg base CX0 1 f fd ["cell", "many", "limit"] (sp__law_draws K) := by
  refine F.ok sc__law_draws (fun vs H Q E h => ?_) (fun cdv A outer s H vs Q E hr h => ?_)
  · obtain ⟨c, m, l, rfl, _⟩ := h
    rfl
  · obtain ⟨c, m, l, rfl, ⟨hm, hl0, hl1⟩, q⟩ := h
    refine ⟨_, (pss_cons (ps_set (i := 3) sc__law_draws.nd rfl (Or.inl rfl) (pe_lst pa_nil))
      (pss_cons (ps_set (i := 4) sc__law_draws.nd rfl (Or.inl rfl) (pe_callB Kn.cr_abs (by rfl) T.b_abs (by decide +kernel) (pa_cons (pv 0) pa_nil)))
      (pss_cons (ps_for PassesOwn.never rfl (pi_range1 rfl T.b_range (pa_cons (pv 1) pa_nil)) (pg_name (i := 5) sc__law_draws.nd rfl (Or.inl rfl)) (pss_one (ps_if (PW.pt (pw_and (pt_cmpR op_ge (pe_callB Kn.cr_abs (by rfl) T.b_abs (by decide +kernel) (pa_cons (pv 0) pa_nil)) (pe_op op_pow pe_int pe_int) (nomark _)) (pw_and1 (pt_cmpR op_gt (pv 4) pe_int (nomark _))))) (pss_cons (ps_expr (pe_bm PySem.F.plainAttrs_list PySem.F.slot_list_append PySem.F.type_list_append mt_append (pv 3) (pa_cons (pe_op op_mod (pe_callTy Kn.cr_int1 (by rfl) T.b_int (by decide +kernel) (pa_cons (pv 4) pa_nil)) (pv 2)) pa_nil)))
      (pss_one (ps_set (i := 4) sc__law_draws.nd rfl (Or.inl rfl) (pe_op op_fdiv (pv 4) (pv 2))))) (pss_cons (ps_set (i := 6) sc__law_draws.nd rfl (Or.inl rfl) (pe_op op_mod (pe_callTy Kn.cr_int1 (by rfl) T.b_int (by decide +kernel) (pa_cons (pe_op op_add (pe_op op_add (pe_op op_mul (pe_callB Kn.cr_abs (by rfl) T.b_abs (by decide +kernel) (pa_cons (pv 0) pa_nil)) pe_int) (pe_op op_mul (pv 5) pe_int)) pe_int) pa_nil)) pe_int))
      (pss_cons (ps_set (i := 6) sc__law_draws.nd rfl (Or.inl rfl) (pe_op op_mod (pe_callTy Kn.cr_int1 (by rfl) T.b_int (by decide +kernel) (pa_cons (pe_op op_add (pe_op op_add (pe_op op_mul (pv 6) pe_int) (pe_op op_fdiv (pv 6) pe_int)) (pe_op op_mul (pv 5) pe_int)) pa_nil)) pe_int))
      (pss_one (ps_expr (pe_bm PySem.F.plainAttrs_list PySem.F.slot_list_append PySem.F.type_list_append mt_append (pv 3) (pa_cons (pe_op op_mod (pe_op op_fdiv (pv 6) pe_int) (pv 2)) pa_nil)))))))))
      (pss_one (ps_ret (pv 3)))))), ?_⟩
    refine q_asgL (el_lst ea_nil (by decide)) fun p H1 np e1 hp => ?_
    refine q_asg (v := .int (c.natAbs : Int)) (by walk_at "ev") fun H2 e2 => ?_
    refine q_forR1 (n := m) (by walk_at "ev") ⟨by omega, by omega⟩ (fun i σ' H' => ∃ x5 x6, σ' = [some (.int c), some (.int m), some (.int l), some (.ref p), some (.int (drawsTo c l i).2), x5, x6] ∧ Ex H H' ∧ H' p = some (.lst ((drawsTo c l i).1.map V.int))) (fun H3 e3 => ⟨_, _, rfl, (e1.trans e2).trans e3, e3 _ _ (e2 _ _ hp)⟩) ?_ ?_
    · rintro i σ' H3 hi ⟨x5, x6, rfl, e3, hl⟩
      have hz : ((drawsTo c l i).1.map V.int).length < 100000 := by
        rw [List.length_map, drawsTo_len]
        omega
      refine s_if (b := decide ((10 : Int) ^ (18 : Int).toNat ≤ (c.natAbs : Int)) && decide (0 < (drawsTo c l i).2)) (by walk_at "ev") (fun hb H4 e4 => ?_) (fun hb H4 e4 => ?_)
      · have e : drawsTo c l (i + 1) = ((drawsTo c l i).1 ++ [(drawsTo c l i).2 % l], (drawsTo c l i).2 / l) := by
          show drawStep c l i (drawsTo c l i) = _
          unfold drawStep
          rw [if_pos hb]
        refine q_app (v := .int ((drawsTo c l i).2 % l)) (e4 _ _ hl) (by walk_at "ev") (by walk_at "ev") hz fun H5 e5 => ?_
        refine s_asg (v := .int ((drawsTo c l i).2 / l)) (by walk_at "ev") fun H6 e6 => ⟨some (.int (i : Int)), x6, by rw [e]; rfl, ((Ex.mut ((e3.trans e4).trans e5) np).trans e6), ?_⟩
        · rw [e]
          refine e6 _ _ ?_
          rw [List.map_append]
          exact upd_same
      · have e : drawsTo c l (i + 1) = ((drawsTo c l i).1 ++ [((((c.natAbs : Int) * 48271 + (i : Int) * 69621 + 7) % 2147483647) * 16807 + (((c.natAbs : Int) * 48271 + (i : Int) * 69621 + 7) % 2147483647) / 127 + (i : Int) * 31) % 2147483629 / 3 % l], (drawsTo c l i).2) := by
          show drawStep c l i (drawsTo c l i) = _
          unfold drawStep
          rw [if_neg (by rw [hb]; decide)]
        refine q_asg (v := .int (((c.natAbs : Int) * 48271 + (i : Int) * 69621 + 7) % 2147483647)) (by walk_at "ev") fun H5 e5 => ?_
        refine q_asg (v := .int (((((c.natAbs : Int) * 48271 + (i : Int) * 69621 + 7) % 2147483647) * 16807 + (((c.natAbs : Int) * 48271 + (i : Int) * 69621 + 7) % 2147483647) / 127 + (i : Int) * 31) % 2147483629)) (by walk_at "ev") fun H6 e6 => ?_
        refine s_app (v := .int (((((c.natAbs : Int) * 48271 + (i : Int) * 69621 + 7) % 2147483647) * 16807 + (((c.natAbs : Int) * 48271 + (i : Int) * 69621 + 7) % 2147483647) / 127 + (i : Int) * 31) % 2147483629 / 3 % l)) (e6 _ _ (e5 _ _ (e4 _ _ hl))) (by walk_at "ev") (by walk_at "ev") hz fun H7 e7 => ⟨some (.int (i : Int)), some (.int (((((c.natAbs : Int) * 48271 + (i : Int) * 69621 + 7) % 2147483647) * 16807 + (((c.natAbs : Int) * 48271 + (i : Int) * 69621 + 7) % 2147483647) / 127 + (i : Int) * 31) % 2147483629)), by rw [e]; rfl, Ex.mut (((e3.trans e4).trans e5).trans (e6.trans e7)) np, ?_⟩
        · rw [e, List.map_append]
          exact upd_same
    · rintro σ' H3 ⟨x5, x6, rfl, e3, hl⟩
      exact s_ret (ev_var rfl) fun H4 e4 => q p H4 np (e3.trans e4) (e4 _ _ hl)

def C1 : List Nat := (Str.ofString "\n !\"#$&'()*+,-./0123456789:;<=>?@ABCDEFGHIJKLMNOPQRSTUVWXYZ[\\]^_`").cps.toList
def C2 : List Nat := (Str.ofString "abcdefghijklmnopqrstuvwxyz{|}~").cps.toList
theorem C_len : (C1 ++ C2).length = 95 := by decide +kernel
def textN (ns : List Nat) : List Nat := ns.map fun n => (C1 ++ C2).getD (n % 95) 0
def sp__law_text (K : PySem.W.Frag) : Sp := sp2 (fun (p : Addr) (_ : List Nat) => [.ref p]) (fun p ns H => SqL K H p (ns.map fun n : Nat => V.int (n : Int)) ∧ ns.length ≤ 400) (fun _ ns => .str (S (textN ns)))
theorem flat_sing (ns : List Nat) (f : Nat → Nat) : (ns.map fun n => [f n]).flatten = ns.map f := by
  induction ns with
  | nil => rfl
  | cons n r ih =>
    rw [List.map_cons, List.flatten_cons, ih]
    rfl
theorem sum_sing (ns : List Nat) (f : Nat → Nat) : ((ns.map fun n => [f n]).map (·.length)).sum = ns.length := by
  induction ns with
  | nil => rfl
  | cons n r ih =>
    rw [List.map_cons, List.map_cons, List.sum_cons, ih]
    show 1 + r.length = r.length + 1
    omega
theorem ok__law_text {f : Addr} {fd : FuncData} (F : Fun K "_law_text" "_law_text" s__law_text f fd) (T : Tx mg) (G : Gx K mg)  : FnOk P w K mg base CX0 1 f fd ["numbers"] (sp__law_text K) := by
  refine F.ok sc__law_text (fun vs H Q E h => ?_) (fun cdv A outer s H vs Q E hr h => ?_)
  · obtain ⟨p, ns, rfl, _⟩ := h
    rfl
  · obtain ⟨p, ns, rfl, ⟨hS, hn⟩, q⟩ := h
    refine ⟨_, (pss_cons (ps_set (i := 1) sc__law_text.nd rfl (Or.inr rfl) pe_str)
      (pss_cons (ps_set (i := 1) sc__law_text.nd rfl (Or.inr rfl) (pe_op Kn.op_addS (pv 1) pe_str))
      (pss_one (ps_ret (Kn.pe_joinN (pe_join pe_str (pe_lc (own := [("number", 2)]) rfl sc__law_text.nd (pi_list (pv 0)) (blkOk_by (own := [("number", 2)]) (N := N__law_text) (sc := defScope s__law_text) (by decide +kernel)) (fun _ _ _ _ _ => pg_name (i := 2) sc__law_text.nd rfl (Or.inl rfl)) (fun _ _ _ _ _ => pts_nil) (fun _ _ _ _ _ => (pe_ix ix_str (pv 1) (pe_op op_mod (pe_callTy Kn.cr_int1 (by rfl) T.b_int (by decide +kernel) (pa_cons (pv 2) pa_nil)) pe_int) (fun _ _ => rfl)))))))))), ?_⟩
    refine q_asg (v := .str (S C1)) (ev_cS rfl) fun H1 e1 => ?_
    refine q_asg (v := .str (S (C1 ++ C2))) (ev_op (ev_var rfl) (ev_cS rfl) (rv_addS (by rw [← List.length_append]; show (C1 ++ C2).length ≤ 100000; rw [C_len]; decide))) fun H2 e2 => ?_
    have hcl := C_len
    have hval : textN ns = (ns.map fun n => [(C1 ++ C2).getD (n % 95) 0]).flatten := (flat_sing ns _).symm
    generalize hC : C1 ++ C2 = C at hcl hval
    refine s_ret (v := .str (S (textN ns))) (ev_is (ev_join (s := []) (ys := ns.map fun n => [C.getD (n % 95) 0]) (ev_cS rfl) (by
      rw [List.map_map]
      refine el_lcM (g := fun n : Nat => V.int (n : Int)) (ev_var rfl) (ex_l (e1.trans e2) hS) (by omega) (fun _ => rfl) fun n hn H3 e3 => ?_
      have hlt : n % 95 < C.length := by rw [hcl]; exact Nat.mod_lt _ (by decide)
      refine ev_idxS (ev_var rfl) (ev_mod (m := 95) (ev_cb (ea_cons (ev_var rfl) ea_nil) rc_int) rfl (by decide)) (by rw [hcl]; decide) (atI_nat ?_)
      rw [List.getD_eq_getElem?_getD, List.getElem?_eq_getElem hlt]
      rfl) ?_) (by rw [Kn.join_nil, hval])) fun H3 e3 => q H3 ((e1.trans e2).trans e3)
    rw [List.length_nil, Nat.mul_zero, Nat.add_zero, sum_sing]
    omega

def sp__law_string (_ : PySem.W.Frag) : Sp := sp1 (fun l : List Nat => [.str (S l)]) (fun l _ => l.length ≤ 9000) (fun l => .str (S (wr l)))
theorem ok__law_string {f : Addr} {fd : FuncData} (F : Fun K "_law_string" "_law_string" s__law_string f fd) (T : Tx mg) (G : Gx K mg)  : FnOk P w K mg base CX0 1 f fd ["text"] (sp__law_string K) := by
  refine okT F sc__law_string (by decide +kernel) (by decide) (fun vs H Q E h => ?_) (fun cdv A outer s H vs Q E hr h => ?_)
  · obtain ⟨l, rfl, _⟩ := h
    rfl
  · obtain ⟨l, rfl, hl, q⟩ := h
    refine ⟨_, (CwR.psst_one (CwR.pst_ret (CwR.pet_op Kn.op_addS (CwR.pet_op Kn.op_addS (CwR.PET.of pe_str) (CwR.pet_replT (CwR.pet_replT (CwR.pet_replC (pv 0))))) (CwR.PET.of pe_str)))), ?_⟩
    have l1 := sub1_len (c := 92) (z := [92, 92]) (by decide) l
    have l2 := sub1_len (c := 34) (z := [92, 34]) (by decide) (sub1 92 [92, 92] l)
    have l3 := fm_len l
    exact s_ret (v := .str (S (wr l))) (ev_op (ev_op (ev_cS (l := [34]) rfl) (ev_is (ev_replA (c := 10) (z := [92, 110]) (ev_replA (c := 34) (z := [92, 34]) (ev_replA (c := 92) (z := [92, 92]) (ev_var rfl) rfl rfl (by omega) (by decide)) rfl rfl (by omega) (by decide)) rfl rfl (by omega) (by decide)) (show _ = V.str (S (fm l)) by rw [sub_comp])) (rv_addS (by show 1 + _ ≤ 100000; omega))) (ev_cS (l := [34]) rfl) (rv_addS (by rw [List.length_append]; show 1 + _ + 1 ≤ 100000; omega))) q
theorem draws_nat (c l : Int) (hl : 0 < l) (n : Nat) : ∃ ns : List Nat, ns.length = n ∧ (drawsTo c l n).1.map V.int = ns.map fun k : Nat => V.int (k : Int) := by
  refine ⟨(drawsTo c l n).1.map Int.toNat, by rw [List.length_map, drawsTo_len], ?_⟩
  rw [List.map_map]
  refine List.map_congr_left fun d hd => ?_
  show V.int d = V.int ((d.toNat : Nat) : Int)
  rw [Int.toNat_of_nonneg (drawsTo_mem hl n d hd).1]
end

section
def lit (x : Str) : List Nat := x.cps.toList
def missT : List Nat := lit "missing token"
def unexp : List Nat := lit "unexpected token"
def missA : List Nat := lit "missing argument"
def extraA : List Nat := lit "extra argument"
def tooDeep : List Nat := lit "too deep"
def unkFun : List Nat := lit "unknown function"
def unkName : List Nat := lit "unknown name"
def invName : List Nat := lit "invalid name"
def LET : List Nat := lit "abcdefghijklmnopqrstuvwxyz"
def IDS : List Nat := lit "abcdefghijklmnopqrstuvwxyz0123456789_"
def funT : List (List Nat × Nat) := [(lit "read", 1), (lit "has", 1), (lit "list", 2), (lit "setting", 1), (lit "same", 2), (lit "not", 1), (lit "upper", 1), (lit "count", 1), (lit "sort", 1), (lit "first", 1), (lit "rest", 1), (lit "join", 2), (lit "swap", 3)]
def funF : List (Str × V) := [("read", .int 1), (Str.ofString "has", .int 1), (Str.ofString "list", .int 2), (Str.ofString "setting", .int 1), (Str.ofString "same", .int 2), (Str.ofString "not", .int 1), (Str.ofString "upper", .int 1), (Str.ofString "count", .int 1), (Str.ofString "sort", .int 1), (Str.ofString "first", .int 1), (Str.ofString "rest", .int 1), (Str.ofString "join", .int 2), (Str.ofString "swap", .int 3)]
theorem funF_eq : funF = funT.map fun x => (S x.1, V.int (x.2 : Int)) := by rfl
def arity (l : List Nat) : Option Nat := (funT.find? fun x => decide (x.1 = l)).map (·.2)
theorem fun_look (l : List Nat) : wdLook funF (S l) = (arity l).map fun n : Nat => V.int (n : Int) := by
  rw [funF_eq]
  unfold arity
  generalize funT = t
  unfold wdLook
  induction t with
  | nil => rfl
  | cons x r ih =>
    rw [List.map_cons, List.find?_cons, List.find?_cons]
    have e : decide (S x.1 = S l) = decide (x.1 = l) := by
      rw [decide_eq_decide]
      exact ⟨fun z => S_inj z, fun z => by rw [z]⟩
    dsimp only
    rw [e]
    by_cases h : x.1 = l
    · rw [decide_eq_true h]
      rfl
    · rw [decide_eq_false h]
      exact ih
abbrev Res := Option (Rs (PyData × Nat))
def errG (c : Nat) (why : List Nat) : Res := if c < 10 ^ 9 then some (.inr (c, why)) else none
def sgn (ts : List Tok3) (a : Nat) : List Nat := match ts[a]? with
  | some x => if x.1 = kSig then x.2.1 else []
  | none => []
def chkB (ts : List Tok3) (a w : Nat) : Option (Nat × List Nat) := match ts[a]? with
  | none => some (0, missT)
  | some x => if sgn ts a ≠ [44] ∧ sgn ts a ≠ [41] then some (x.2.2, unexp) else if sgn ts a = [41] ∧ 0 < w then some (x.2.2, missA) else if sgn ts a = [44] ∧ w = 0 then some (x.2.2, extraA) else none
def idOk (l : List Nat) : Bool := decide (1 ≤ l.length) && decide (l.length ≤ 12) && decide (l.getD 0 0 ∈ LET) && l.all fun c => decide (c ∈ IDS)
def textD (l : List Nat) : PyData := .tuple [.str (S (lit "text")), .str (S l)]
def nameD (l : List Nat) : PyData := .tuple [.str (S (lit "name")), .str (S l)]
def callD (w : List Nat) (ds : List PyData) : PyData := .tuple [.str (S (lit "call")), .str (S w), .tuple ds]
def joinD (ds : List PyData) : PyData := .tuple [.str (S (lit "join")), .tuple ds]
def pairE (x : PyData × Nat) : PyData := .tuple [x.1, .int (x.2 : Int)]
def termG (call : Nat → Res) (ts : List Tok3) (ks : List (List Nat)) (a : Nat) : Res := match ts[a]? with
  | none => some (.inr (0, missT))
  | some x => if x.1 = kStr then some (.inl (textD x.2.1, a + 1)) else if x.1 = kSig then errG x.2.2 unexp else if sgn ts (a + 1) = [40] then call a else
    if idOk x.2.1 = false then (if x.2.1.length ≤ 40000 then errG x.2.2 invName else none) else if x.2.1 ∉ ks then errG x.2.2 unkName else some (.inl (nameD x.2.1, a + 1))
def argsG (expr : Nat → Res) (ts : List Tok3) (w : List Nat) : Nat → List PyData → Nat → Res
  | 0, acc, b => some (.inl (callD w acc, b + 1))
  | m + 1, acc, b => if sgn ts (b + 1) = [41] then (match ts[b + 1]? with
      | some x => errG x.2.2 missA
      | none => none) else match expr (b + 1) with
    | none => none
    | some (.inr e) => some (.inr e)
    | some (.inl (d, b2)) => match chkB ts b2 m with
      | some (c, why) => errG c why
      | none => argsG expr ts w m (acc ++ [d]) b2
def callG (expr : Nat → Res) (ts : List Tok3) (dp a : Nat) : Res := match ts[a]? with
  | none => none
  | some x => if 6 ≤ dp then errG x.2.2 tooDeep else match arity x.2.1 with
    | none => errG x.2.2 unkFun
    | some n => argsG expr ts x.2.1 n [] (a + 1)
def moreG (term : Nat → Res) (ts : List Tok3) : Nat → List PyData → PyData → Nat → Res
  | 0, _, _, _ => none
  | n + 1, acc, d, b => if sgn ts b = [43] then (match term (b + 1) with
      | none => none
      | some (.inr e) => some (.inr e)
      | some (.inl (d2, b2)) => if acc.length < 1000 then moreG term ts n (acc ++ [d2]) d2 b2 else none) else some (.inl (if acc.length = 1 then d else joinD acc, b))
def termN (expr : Nat → Nat → Nat → Res) (ts : List Tok3) (ks : List (List Nat)) (n dp : Nat) : Nat → Res := termG (callG (expr n (dp + 1)) ts dp) ts ks
def exprN (ts : List Tok3) (ks : List (List Nat)) : Nat → Nat → Nat → Res
  | 0, _, _ => none
  | n + 1, dp, a => match termG (callG (exprN ts ks n (dp + 1)) ts dp) ts ks a with
    | none => none
    | some (.inr e) => some (.inr e)
    | some (.inl (d, b)) => moreG (termG (callG (exprN ts ks n (dp + 1)) ts dp) ts ks) ts (ts.length + 1) [d] d b
def NoLs (f : Nat → Res) : Prop := ∀ a d b, f a = some (.inl (d, b)) → noL d = true
theorem errG_inl {c : Nat} {why : List Nat} {x : PyData × Nat} : errG c why ≠ some (.inl x) := by
  unfold errG
  split
  · exact fun z => nomatch z
  · exact fun z => nomatch z
theorem noLA_snoc {ds : List PyData} {d : PyData} (h : noLA ds = true) (hd : noL d = true) : noLA (ds ++ [d]) = true := by
  induction ds with
  | nil =>
    show noLA [d] = true
    unfold noLA
    rw [hd]
    unfold noLA
    rfl
  | cons x r ih =>
    unfold noLA at h
    rw [Bool.and_eq_true] at h
    show noLA (x :: (r ++ [d])) = true
    unfold noLA
    rw [h.1, ih h.2]
    rfl
theorem noL_tup {ds : List PyData} (h : noLA ds = true) : noL (.tuple ds) = true := by
  unfold noL
  exact h
theorem noLA2 {a b : PyData} (h1 : noL a = true) (h2 : noL b = true) : noLA [a, b] = true := noLA_snoc (noLA_snoc (ds := []) (by unfold noLA; rfl) h1) h2
theorem noL_str (l : List Nat) : noL (.str (S l)) = true := by unfold noL; rfl
theorem noL_call {w : List Nat} {ds : List PyData} (h : noLA ds = true) : noL (callD w ds) = true := noL_tup (noLA_snoc (noLA2 (noL_str _) (noL_str _)) (noL_tup h))
theorem noL_join {ds : List PyData} (h : noLA ds = true) : noL (joinD ds) = true := noL_tup (noLA2 (noL_str _) (noL_tup h))
theorem args_noL {expr : Nat → Res} {ts : List Tok3} {w : List Nat} (he : NoLs expr) : ∀ (m : Nat) (acc : List PyData) (b : Nat), noLA acc = true → ∀ d b2, argsG expr ts w m acc b = some (.inl (d, b2)) → noL d = true
  | 0, acc, b, ha, d, b2, h => by
    unfold argsG at h
    cases h
    exact noL_call ha
  | m + 1, acc, b, ha, d, b2, h => by
    unfold argsG at h
    split at h
    · split at h
      · exact absurd h errG_inl
      · cases h
    · split at h
      · cases h
      · cases h
      · next d1 b1 hd1 =>
        split at h
        · exact absurd h errG_inl
        · exact args_noL he m _ _ (noLA_snoc ha (he _ _ _ hd1)) d b2 h
theorem call_noL {expr : Nat → Res} {ts : List Tok3} {dp : Nat} (he : NoLs expr) : NoLs (callG expr ts dp) := fun a d b h => by
  unfold callG at h
  split at h
  · cases h
  · split at h
    · exact absurd h errG_inl
    · split at h
      · exact absurd h errG_inl
      · exact args_noL he _ _ _ (by unfold noLA; rfl) d b h
theorem term_noL {call : Nat → Res} {ts : List Tok3} {ks : List (List Nat)} (hc : NoLs call) : NoLs (termG call ts ks) := fun a d b h => by
  unfold termG at h
  split at h
  · cases h
  · split at h
    · cases h
      exact noL_tup (noLA2 (noL_str _) (noL_str _))
    · split at h
      · exact absurd h errG_inl
      · split at h
        · exact hc _ _ _ h
        · split at h
          · split at h
            · exact absurd h errG_inl
            · cases h
          · split at h
            · exact absurd h errG_inl
            · cases h
              exact noL_tup (noLA2 (noL_str _) (noL_str _))
theorem more_noL {term : Nat → Res} {ts : List Tok3} (ht : NoLs term) : ∀ (n : Nat) (acc : List PyData) (d0 : PyData) (b : Nat), noLA acc = true → noL d0 = true → ∀ d b2, moreG term ts n acc d0 b = some (.inl (d, b2)) → noL d = true
  | 0, _, _, _, _, _, _, _, h => by unfold moreG at h; cases h
  | n + 1, acc, d0, b, ha, h0, d, b2, h => by
    unfold moreG at h
    split at h
    · split at h
      · cases h
      · cases h
      · next d1 b1 hd1 =>
        split at h
        · exact more_noL ht n _ _ _ (noLA_snoc ha (ht _ _ _ hd1)) (ht _ _ _ hd1) d b2 h
        · cases h
    · cases h
      split
      · exact h0
      · exact noL_join ha
theorem expr_noL {ts : List Tok3} {ks : List (List Nat)} : ∀ (n dp : Nat), NoLs (exprN ts ks n dp)
  | 0, _ => fun _ _ _ h => by unfold exprN at h; cases h
  | n + 1, dp => fun a d b h => by
    have ht := term_noL (ts := ts) (ks := ks) (call_noL (ts := ts) (dp := dp) (expr_noL (ts := ts) (ks := ks) n (dp + 1)))
    unfold exprN at h
    split at h
    · cases h
    · cases h
    · next d1 b1 hd1 => exact more_noL ht _ _ _ _ (noLA_snoc (ds := []) (by unfold noLA; rfl) (ht _ _ _ hd1)) (ht _ _ _ hd1) d b h
end
section
variable {P : Program} {w : World} {K : PySem.W.Frag} {mg : Str → Option Value} {base : Heap}
/-- the list of tokens at p -/
def TLs (H : Hp) (p : Addr) (ts : List Tok3) : Prop := ∃ vs, H p = some (.lst vs) ∧ DtA H vs (ts.map tokD) ∧ ts.length ≤ 50000
theorem TLs.mono {H H1 : Hp} {p : Addr} {ts : List Tok3} (h : TLs H p ts) (e : Ex H H1) : TLs H1 p ts := by
  obtain ⟨vs, a, b, c⟩ := h
  exact ⟨vs, e _ _ a, b.mono e, c⟩
theorem TLs.at_ {H : Hp} {p : Addr} {ts : List Tok3} (h : TLs H p ts) {a : Nat} {x : Tok3} (hx : ts[a]? = some x) : ∃ q, H q = some (.tup [.str (S x.1), .str (S x.2.1), .int (x.2.2 : Int)]) ∧ ∀ {σ : L2.St} {ta tb : TE}, Ev ta σ H (.ref p) → Ev tb σ H (.int (a : Int)) → Ev (tOp (rIxL K) ta tb) σ H (.ref q) := by
  obtain ⟨vs, h1, h2, h3⟩ := h
  obtain ⟨v, hv, hd⟩ := h2.get a (tokD x) (by rw [List.getElem?_map, hx]; rfl)
  obtain ⟨q, rfl, hq⟩ := tokD_inv hd
  exact ⟨q, hq, fun ha hb => ev_op ha hb (rv_ixL (sq_of h1) (atI_nat hv))⟩
theorem TLs.len {H : Hp} {p : Addr} {ts : List Tok3} (h : TLs H p ts) {σ : L2.St} {ta : TE} (ha : Ev ta σ H (.ref p)) : Ev (tCB (rLenS K) (tCons ta tNil)) σ H (.int (ts.length : Int)) := by
  obtain ⟨vs, h1, h2, h3⟩ := h
  have := h2.len
  rw [List.length_map] at this
  rw [← this]
  exact ev_len ha (sq_of h1)
theorem nf2 (G : Gx K mg) : Nf2 K G.c_BadToken := ⟨G.n_BadToken_column, G.n_BadToken_reason⟩
def sp_is_identifier (_ : PySem.W.Frag) : Sp := sp1 (fun l : List Nat => [.str (S l)]) (fun l _ => l.length ≤ 40000) (fun l => .bl (idOk l))
theorem ok_is_identifier {f : Addr} {fd : FuncData} (F : Fun K "is_identifier" "is_identifier" s_is_identifier f fd) (T : Tx mg) (G : Gx K mg)  : FnOk P w K mg base CX0 1 f fd ["value"] (sp_is_identifier K) := by
  refine F.ok sc_is_identifier (fun vs H Q E h => ?_) (fun cdv A outer s H vs Q E hr h => ?_)
  · obtain ⟨l, rfl, _⟩ := h
    rfl
  · obtain ⟨l, rfl, hl, q⟩ := h
    refine ⟨_, (pss_cons (ps_if (PW.pt (pw_or (pt_not (pt_chain op_le op_le pe_int (pe_callB Kn.cr_lenStr (by rfl) T.b_len PySem.boot_len (pa_cons (pv 0) pa_nil)) (C8.pe_gc (by rfl) T.c_IDENTIFIER_LENGTH))) (pw_or1 (pt_cmpR op_notInS (pe_ix ix_str (pv 0) pe_int (fun _ _ => rfl)) (C8.pe_gc (by rfl) T.c_LETTERS) rfl)))) (pss_one (ps_ret pe_bl)) pss_nil)
      (pss_one (ps_ret (pe_callB (cr_all rfl) (by rfl) T.b_all (by decide +kernel) (pa_cons (pe_lc (own := [("sign", 1)]) rfl sc_is_identifier.nd (pi_str (pv 0)) (blkOk_by (own := [("sign", 1)]) (N := N_is_identifier) (sc := defScope s_is_identifier) (by decide +kernel)) (fun _ _ _ _ _ => pg_name (i := 1) sc_is_identifier.nd rfl (Or.inl rfl)) (fun _ _ _ _ _ => pts_nil) (fun _ _ _ _ _ => (pe_cmpR op_inS (pv 1) (C8.pe_gc (by rfl) T.c_IDENTIFIER_SIGNS) rfl))) pa_nil))))), ?_⟩
    refine q_when (b := !(decide (1 ≤ l.length) && decide (l.length ≤ 12)) || !decide (l.getD 0 0 ∈ LET)) (et_or (et_not (et_is (et_test (ev_chain ev_c (ev_cb (ea_cons (ev_var rfl) ea_nil) (rc_lenS (by omega))) rv_le (ev_c (v := .int ((12 : Nat) : Int))) rv_le)) (by
      congr 1
      · rw [decide_eq_decide]; omega
      · rw [decide_eq_decide]; omega))) fun h => ?_) (fun hb H1 e1 => ?_) fun hb H1 e1 => ?_
    · rw [Bool.not_eq_false', Bool.and_eq_true, decide_eq_true_eq] at h
      cases l with
      | nil => exact absurd h.1 (by decide)
      | cons c r => exact et_test (ev_op (ev_idxS (ev_var rfl) (ev_c (v := .int ((0 : Nat) : Int))) (by omega) (atI_nat rfl)) (ev_cS (l := LET) rfl) rv_ninS)
    · have h0 : idOk l = false := by
        unfold idOk
        cases h1 : decide (1 ≤ l.length) && decide (l.length ≤ 12) with
        | false => rfl
        | true =>
          rw [h1] at hb
          cases h2 : decide (l.getD 0 0 ∈ LET) with
          | false => rfl
          | true => rw [h2] at hb; cases hb
      refine s_ret (v := .bl (idOk l)) (ev_is ev_c (by rw [h0])) fun H2 e2 => q H2 (e1.trans e2)
    · have h0 : idOk l = l.all fun c => decide (c ∈ IDS) := by
        rw [Bool.or_eq_false_iff, Bool.not_eq_false', Bool.not_eq_false'] at hb
        unfold idOk
        rw [hb.1, hb.2]
        rfl
      exact s_ret (v := .bl (idOk l)) (ev_is (ev_all (p := fun c : Nat => decide (c ∈ IDS)) (xs := l) (el_lcS (ev_var rfl) (by omega) (fun _ => rfl) fun c hc H2 e2 => ev_op (ev_var rfl) (ev_cS (l := IDS) rfl) rv_inS)) (by rw [h0])) fun H2 e2 => q H2 (e1.trans e2)
def sp__sign (_ : PySem.W.Frag) : Sp := fun vs H Q _ => ∃ (p : Addr) (ts : List Tok3) (a : Nat), vs = [.ref p, .int (a : Int)] ∧ TLs H p ts ∧ Rt H (.str (S (sgn ts a))) Q
theorem ok__sign {f : Addr} {fd : FuncData} (F : Fun K "_sign" "_sign" s__sign f fd) (T : Tx mg) (G : Gx K mg)  : FnOk P w K mg base CX0 1 f fd ["tokens", "at"] (sp__sign K) := by
  refine F.ok sc__sign (fun vs H Q E h => ?_) (fun cdv A outer s H vs Q E hr h => ?_)
  · obtain ⟨p, ts, a, rfl, _⟩ := h
    rfl
  · obtain ⟨p, ts, a, rfl, hT, q⟩ := h
    refine ⟨_, (pss_cons (ps_if (PW.pt (pw_and (pt_cmpR op_lt (pv 1) (pe_callB Kn.cr_lenSeq (by rfl) T.b_len PySem.boot_len (pa_cons (pv 0) pa_nil)) (nomark _)) (pw_and1 (pt_cmpR op_eq (pe_ix ix_tup (pe_ix ix_list (pv 0) (pv 1) (fun _ _ => rfl)) pe_int (fun _ _ => rfl)) pe_str (nomark _))))) (pss_one (ps_ret (pe_ix ix_tup (pe_ix ix_list (pv 0) (pv 1) (fun _ _ => rfl)) pe_int (fun _ _ => rfl)))) pss_nil)
      (pss_one (ps_ret pe_str))), ?_⟩
    cases hx : ts[a]? with
    | none =>
      have hge : ts.length ≤ a := List.getElem?_eq_none_iff.mp hx
      have hs : sgn ts a = [] := by unfold sgn; rw [hx]
      rw [hs] at q
      refine q_when (b := false && true) (et_and (b := true) (et_is (et_test (ev_op (ev_var rfl) (hT.len (ev_var rfl)) rv_lt)) (decide_eq_false (by omega))) fun h => nomatch h) (fun h => nomatch h) fun _ H1 e1 => ?_
      exact s_ret (ev_cS rfl) fun H2 e2 => q H2 (e1.trans e2)
    | some x =>
      have hlt : a < ts.length := (List.getElem?_eq_some_iff.mp hx).1
      obtain ⟨z, hz, ez⟩ := hT.at_ (K := K) hx
      refine q_when (b := true && decide (x.1 = kSig)) (et_and (et_is (et_test (ev_op (ev_var rfl) (hT.len (ev_var rfl)) rv_lt)) (decide_eq_true (by omega))) fun h => et_test (ev_op (ev_op (ez (ev_var rfl) (ev_var rfl)) ev_c (rv_ix0 (i := 0) (v := .str (S x.1)) (st_of hz) rfl)) (ev_cS (l := kSig) rfl) rv_eqS)) (fun h H1 e1 => ?_) fun h H1 e1 => ?_
      · have hs : sgn ts a = x.2.1 := by
          unfold sgn
          rw [hx]
          dsimp only
          rw [Bool.true_and] at h
          rw [if_pos (of_decide_eq_true h)]
        rw [hs] at q
        exact s_ret ((ev_op (ez (ev_var rfl) (ev_var rfl)) ev_c (rv_ix0 (i := 1) (v := .str (S x.2.1)) (st_of hz) rfl)).mono e1) fun H2 e2 => q H2 (e1.trans e2)
      · have hs : sgn ts a = [] := by
          unfold sgn
          rw [hx]
          dsimp only
          rw [Bool.true_and] at h
          rw [if_neg (of_decide_eq_false h)]
        rw [hs] at q
        exact s_ret (ev_cS rfl) fun H2 e2 => q H2 (e1.trans e2)
theorem ev_sign {H : Hp} {σ : L2.St} {E : XK} {p : Addr} {ts : List Tok3} {a : Nat} {tA : TA} (hA : EvA tA σ H [.ref p, .int (a : Int)]) (hT : TLs H p ts) : Ev (tCall (sp__sign K) [] E tA) σ H (.str (S (sgn ts a))) := fun H1 e Q q => hA H1 e _ fun H2 e2 => by
  rw [List.append_nil]
  exact ⟨p, ts, a, rfl, hT.mono (e.trans e2), fun H3 e3 => q H3 (e2.trans e3)⟩
def sp__check_there (G : Gx K mg) : Sp := fun vs H Q E => ∃ (p : Addr) (ts : List Tok3) (a : Nat), vs = [.ref p, .int (a : Int)] ∧ TLs H p ts ∧ (a < ts.length → Rt H .non Q) ∧ (ts.length ≤ a → Rz2 H E G.c_BadToken 0 missT)
theorem ok__check_there {f : Addr} {fd : FuncData} (F : Fun K "_check_there" "_check_there" s__check_there f fd) (T : Tx mg) (G : Gx K mg) (Z_BadToken : Kn.Xk P w K mg base 1 "BadToken" G.c_BadToken (sp_I2 K)) : FnOk P w K mg base (L2.CX P w) 3 f fd ["tokens", "at"] (sp__check_there G) := by
  refine F.okX sc__check_there (fun vs H Q E h => ?_) (fun cdv A outer s H vs Q E hr h => ?_)
  · obtain ⟨p, ts, a, rfl, _⟩ := h
    rfl
  · obtain ⟨p, ts, a, rfl, hT, q, qe⟩ := h
    refine ⟨_, (pss_one (ps_if (pt_cmpR op_ge (pv 1) (pe_callB Kn.cr_lenSeq (by rfl) T.b_len PySem.boot_len (pa_cons (pv 0) pa_nil)) (nomark _)) (pss_one (Kn.ps_xk Z_BadToken hr (by decide) rfl (takes_of rfl rfl rfl rfl) (by rfl) (pa_cons pe_int (pa_cons pe_str pa_nil)))) pss_nil)), ?_⟩
    refine s_when (b := decide (ts.length ≤ a)) (et_is (et_test (ev_op (ev_var rfl) (hT.len (ev_var rfl)) rv_ge)) (by rw [decide_eq_decide]; omega)) (fun h H1 e1 => ?_) fun h H1 e1 => ?_
    · exact raise2 (W := fun cls d _ H => E cls d H) (c := 0) G.x_BadToken.oe (nf2 G) ⟨by decide +kernel, by decide⟩ ev_c (ev_cS (l := missT) rfl) fun d2 H' e hd2 => qe (of_decide_eq_true h) d2 H' (e1.trans e) hd2
    · have := of_decide_eq_false h
      exact q (by omega) H1 e1
def sp__check_behind (G : Gx K mg) : Sp := fun vs H Q E => ∃ (p : Addr) (ts : List Tok3) (a w : Nat), vs = [.ref p, .int (a : Int), .int (w : Int)] ∧ TLs H p ts ∧ (chkB ts a w = none → Rt H .non Q) ∧ (∀ c why, chkB ts a w = some (c, why) → c < 10 ^ 9 ∧ Rz2 H E G.c_BadToken c why)
theorem ok__check_behind {f : Addr} {fd : FuncData} (F : Fun K "_check_behind" "_check_behind" s__check_behind f fd) (T : Tx mg) (G : Gx K mg) (C__check_there : Kn.ClX P w K mg base 3 "_check_there" (sp__check_there G)) (C__sign : Kn.Cl P w K mg base 1 "_sign" (sp__sign K)) (Z_BadToken : Kn.Xk P w K mg base 1 "BadToken" G.c_BadToken (sp_I2 K)) : FnOk P w K mg base (L2.CX P w) 4 f fd ["tokens", "at", "wanted"] (sp__check_behind G) := by
  refine F.okX sc__check_behind (fun vs H Q E h => ?_) (fun cdv A outer s H vs Q E hr h => ?_)
  · obtain ⟨p, ts, a, w, rfl, _⟩ := h
    rfl
  · obtain ⟨p, ts, a, w, rfl, hT, q, qe⟩ := h
    refine ⟨_, (pss_cons (ps_expr (Kn.pe_clX C__check_there hr (by decide) (by rfl) (takes_of rfl rfl rfl rfl) (pa_cons (pv 0) (pa_cons (pv 1) pa_nil))))
      (pss_cons (ps_set (i := 3) sc__check_behind.nd rfl (Or.inl rfl) (Kn.pe_cl C__sign hr (by decide) (by rfl) (pa_cons (pv 0) (pa_cons (pv 1) pa_nil))))
      (pss_cons (ps_set (i := 4) sc__check_behind.nd rfl (Or.inl rfl) (pe_ix ix_tup (pe_ix ix_list (pv 0) (pv 1) (fun _ _ => rfl)) pe_int (fun _ _ => rfl)))
      (pss_cons (ps_if (PW.pt (pw_and (pt_cmpR op_ne (pv 3) pe_str (nomark _)) (pw_and1 (pt_cmpR op_ne (pv 3) pe_str (nomark _))))) (pss_one (Kn.ps_xk Z_BadToken hr (by decide) rfl (takes_of rfl rfl rfl rfl) (by rfl) (pa_cons (pv 4) (pa_cons pe_str pa_nil)))) pss_nil)
      (pss_cons (ps_if (PW.pt (pw_and (pt_cmpR op_eq (pv 3) pe_str (nomark _)) (pw_and1 (pt_cmpR op_gt (pv 2) pe_int (nomark _))))) (pss_one (Kn.ps_xk Z_BadToken hr (by decide) rfl (takes_of rfl rfl rfl rfl) (by rfl) (pa_cons (pv 4) (pa_cons pe_str pa_nil)))) pss_nil)
      (pss_one (ps_if (PW.pt (pw_and (pt_cmpR op_eq (pv 3) pe_str (nomark _)) (pw_and1 (pt_cmpR op_eq (pv 2) pe_int (nomark _))))) (pss_one (Kn.ps_xk Z_BadToken hr (by decide) rfl (takes_of rfl rfl rfl rfl) (by rfl) (pa_cons (pv 4) (pa_cons pe_str pa_nil)))) pss_nil))))))), ?_⟩
    refine q_dropS (ea_cons (ev_var rfl) (ea_cons (ev_var rfl) ea_nil)) fun H1 e1 => ?_
    refine ⟨p, ts, a, rfl, hT.mono e1, fun hlt H2 e2 => ?_, fun hge d H' e hd => (qe 0 missT (by unfold chkB; rw [List.getElem?_eq_none_iff.mpr hge])).2 d H' (e1.trans e) hd⟩
    have e12 := e1.trans e2
    have eg := List.getElem?_eq_getElem hlt
    generalize ts[a] = x at eg
    have hchk : chkB ts a w = if sgn ts a ≠ [44] ∧ sgn ts a ≠ [41] then some (x.2.2, unexp) else if sgn ts a = [41] ∧ 0 < w then some (x.2.2, missA) else if sgn ts a = [44] ∧ w = 0 then some (x.2.2, extraA) else none := by
      unfold chkB
      rw [eg]
    rw [hchk] at q qe
    have hT2 := hT.mono e12
    refine q_asg (ev_sign (ea_cons (ev_var rfl) (ea_cons (ev_var rfl) ea_nil)) hT2) fun H3 e3 => ?_
    obtain ⟨z, hz, ez⟩ := (hT2.mono e3).at_ (K := K) eg
    refine q_asg (v := .int (x.2.2 : Int)) (ev_op (ez (ev_var rfl) (ev_var rfl)) ev_c (rv_ix0 (i := 2) (st_of hz) rfl)) fun H4 e4 => ?_
    generalize sgn ts a = sg at q qe
    have e14 := (e12.trans e3).trans e4
    refine q_when (b := !decide (sg = [44]) && !decide (sg = [41])) (et_and (et_test (ev_op (ev_var rfl) (ev_cS (l := [44]) rfl) rv_neS)) fun _ => et_test (ev_op (ev_var rfl) (ev_cS (l := [41]) rfl) rv_neS)) (fun h H5 e5 => ?_) fun h H5 e5 => ?_
    · have h1 : sg ≠ [44] ∧ sg ≠ [41] := by simpa using h
      rw [if_pos h1] at qe
      have := qe _ _ rfl
      exact raise2 (W := fun cls d _ H => E cls d H) (c := x.2.2) G.x_BadToken.oe (nf2 G) ⟨by decide +kernel, this.1⟩ (ev_var rfl) (ev_cS (l := unexp) rfl) fun d2 H' e hd2 => this.2 d2 H' ((e14.trans e5).trans e) hd2
    have h1 : ¬ (sg ≠ [44] ∧ sg ≠ [41]) := fun z => by
      have : (!decide (sg = [44]) && !decide (sg = [41])) = true := by simpa using z
      rw [h] at this
      cases this
    rw [if_neg h1] at q qe
    refine q_when (b := decide (sg = [41]) && decide (0 < w)) (et_and (et_test (ev_op (ev_var rfl) (ev_cS (l := [41]) rfl) rv_eqS)) fun _ => et_is (et_test (ev_op (ev_var rfl) ev_c rv_gt)) (by rw [decide_eq_decide]; omega)) (fun h H6 e6 => ?_) fun h H6 e6 => ?_
    · have h2 : sg = [41] ∧ 0 < w := by simpa using h
      rw [if_pos h2] at qe
      have := qe _ _ rfl
      exact raise2 (W := fun cls d _ H => E cls d H) (c := x.2.2) G.x_BadToken.oe (nf2 G) ⟨by decide +kernel, this.1⟩ (ev_var rfl) (ev_cS (l := missA) rfl) fun d2 H' e hd2 => this.2 d2 H' (((e14.trans e5).trans e6).trans e) hd2
    have h2 : ¬ (sg = [41] ∧ 0 < w) := fun z => by
      have : (decide (sg = [41]) && decide (0 < w)) = true := by simpa using z
      rw [h] at this
      cases this
    rw [if_neg h2] at q qe
    refine s_when (b := decide (sg = [44]) && decide (w = 0)) (et_and (et_test (ev_op (ev_var rfl) (ev_cS (l := [44]) rfl) rv_eqS)) fun _ => et_eqN (m := 0) (ev_var rfl) rfl) (fun h H7 e7 => ?_) fun h H7 e7 => ?_
    · have h3 : sg = [44] ∧ w = 0 := by simpa using h
      rw [if_pos h3] at qe
      have := qe _ _ rfl
      exact raise2 (W := fun cls d _ H => E cls d H) (c := x.2.2) G.x_BadToken.oe (nf2 G) ⟨by decide +kernel, this.1⟩ (ev_var rfl) (ev_cS (l := extraA) rfl) fun d2 H' e hd2 => this.2 d2 H' ((((e14.trans e5).trans e6).trans e7).trans e) hd2
    have h3 : ¬ (sg = [44] ∧ w = 0) := fun z => by
      have : (decide (sg = [44]) && decide (w = 0)) = true := by simpa using z
      rw [h] at this
      cases this
    rw [if_neg h3] at q
    exact q rfl _ (((e14.trans e5).trans e6).trans e7)
end

section
variable {P : Program} {w : World} {K : PySem.W.Frag} {mg : Str → Option Value} {base : Heap}
theorem q_asgG {σ : L2.St} {H : Hp} {te : TE} {v : V} {g : TG} {D : Ends} {tz : TS} (h : Ev te σ H v) (k : ∀ H1, Ex H H1 → g v σ H1 (tz D)) : tSeq (tAsg te g) tz D σ H := h H (Ex.refl H) _ k
theorem eqV_S (a b : List Nat) : eqV (.str (S a)) (.str (S b)) = decide (a = b) := by
  show (S a == S b) = _
  by_cases h : a = b
  · subst h
    rw [decide_eq_true rfl]
    exact beq_self_eq_true _
  · rw [decide_eq_false h]
    exact beq_eq_false_iff_ne.mpr fun z => h (S_inj z)
theorem inV_S (t : List Nat) : ∀ ks : List (List Nat), inV (.str (S t)) (ks.map fun l => V.str (S l)) = decide (t ∈ ks)
  | [] => by simp [inV]
  | k :: r => by
    have ih := inV_S t r
    unfold inV at ih ⊢
    rw [List.map_cons, List.any_cons, ih, eqV_S]
    by_cases h : k = t
    · subst h
      simp
    · have h2 : t ≠ k := fun z => h z.symm
      simp [h, h2]
theorem flat_S : ∀ ks : List (List Nat), (ks.map fun l => V.str (S l)).all flatV = true
  | [] => rfl
  | k :: r => by
    rw [List.map_cons, List.all_cons, flat_S r]
    rfl
def KnL (H : Hp) (pk : Addr) (ks : List (List Nat)) : Prop := H pk = some (.lst (ks.map fun l => V.str (S l))) ∧ ks.length ≤ 100
theorem KnL.mono {H H1 : Hp} {pk : Addr} {ks : List (List Nat)} (h : KnL H pk ks) (e : Ex H H1) : KnL H1 pk ks := ⟨e _ _ h.1, h.2⟩
def RdE (H : Hp) (Q : VK) (E : XK) (C : Addr) (r : Rs (PyData × Nat)) : Prop := (∀ d b, r = .inl (d, b) → RtD H (pairE (d, b)) Q) ∧ ∀ c why, r = .inr (c, why) → Rz2 H E C c why
theorem pairE_inv {H : Hp} {v : V} {d : PyData} {b : Nat} (h : Dt H v (pairE (d, b))) : ∃ q v1, v = .ref q ∧ H q = some (.tup [v1, .int (b : Int)]) ∧ Dt H v1 d := by
  obtain ⟨a, xs, rfl, ha, hx⟩ := h.tup_inv
  cases hx with
  | cons h1 hx =>
    cases hx with
    | cons h2 hx =>
      cases hx
      rw [h2.int_inv] at ha
      exact ⟨a, _, rfl, ha, h1⟩
theorem errG_some {c : Nat} {why : List Nat} {r : Rs (PyData × Nat)} (h : errG c why = some r) : c < 10 ^ 9 ∧ r = .inr (c, why) := by
  unfold errG at h
  split at h
  · next hc => exact ⟨hc, (Option.some.inj h).symm⟩
  · cases h
def sp__expression (G : Gx K mg) (n : Nat) : Sp := fun vs H Q E => ∃ (p pk : Addr) (ts : List Tok3) (ks : List (List Nat)) (a dp : Nat) (r : Rs (PyData × Nat)), vs = [.ref p, .int (a : Int), .ref pk, .int (dp : Int)] ∧ TLs H p ts ∧ KnL H pk ks ∧ exprN ts ks n dp a = some r ∧ RdE H Q E G.c_BadToken r
def sp__term (G : Gx K mg) (n : Nat) : Sp := fun vs H Q E => ∃ (p pk : Addr) (ts : List Tok3) (ks : List (List Nat)) (a dp : Nat) (r : Rs (PyData × Nat)), vs = [.ref p, .int (a : Int), .ref pk, .int (dp : Int)] ∧ TLs H p ts ∧ KnL H pk ks ∧ termG (callG (exprN ts ks n (dp + 1)) ts dp) ts ks a = some r ∧ RdE H Q E G.c_BadToken r
def sp__call (G : Gx K mg) (n : Nat) : Sp := fun vs H Q E => ∃ (p pk : Addr) (ts : List Tok3) (ks : List (List Nat)) (a dp : Nat) (x : Tok3) (r : Rs (PyData × Nat)), vs = [.ref p, .int (a : Int), .ref pk, .int (dp : Int)] ∧ TLs H p ts ∧ KnL H pk ks ∧ ts[a]? = some x ∧ callG (exprN ts ks n (dp + 1)) ts dp a = some r ∧ RdE H Q E G.c_BadToken r
theorem ok__expression0 {G : Gx K mg} {f : Addr} {fd : FuncData} {lv : Nat} (F : Fun K "_expression" "_expression" s__expression f fd) : FnOk P w K mg base (L2.CX P w) (lv + 5) f fd ["tokens", "start", "known", "depth"] (sp__expression G 0) := by
  refine F.okX sc__expression (fun vs H Q E h => ?_) (fun cdv A outer s H vs Q E hr h => ?_)
  · obtain ⟨p, pk, ts, ks, a, dp, r, rfl, _⟩ := h
    rfl
  · obtain ⟨p, pk, ts, ks, a, dp, r, rfl, _, _, h, _⟩ := h
    unfold exprN at h
    cases h
theorem ok__term {f : Addr} {fd : FuncData} {lv n : Nat} (F : Fun K "_term" "_term" s__term f fd) (T : Tx mg) (G : Gx K mg) (C__check_there : Kn.ClX P w K mg base 3 "_check_there" (sp__check_there G)) (C__sign : Kn.Cl P w K mg base 1 "_sign" (sp__sign K)) (C_is_identifier : Kn.Cl P w K mg base 1 "is_identifier" (sp_is_identifier K)) (C__call : Kn.ClX P w K mg base (lv + 6) "_call" (sp__call G n)) (Z_BadToken : Kn.Xk P w K mg base 1 "BadToken" G.c_BadToken (sp_I2 K)) : FnOk P w K mg base (L2.CX P w) (lv + 7) f fd ["tokens", "at", "known", "depth"] (sp__term G n) := by
  refine F.okX sc__term (fun vs H Q E h => ?_) (fun cdv A outer s H vs Q E hr h => ?_)
  · obtain ⟨p, pk, ts, ks, a, dp, r, rfl, _⟩ := h
    rfl
  · obtain ⟨p, pk, ts, ks, a, dp, r, rfl, hT, hK, hm, q, qe⟩ := h
    refine ⟨_, (pss_cons (ps_expr (Kn.pe_clX C__check_there hr (by omega) (by rfl) (takes_of rfl rfl rfl rfl) (pa_cons (pv 0) (pa_cons (pv 1) pa_nil))))
      (pss_cons (ps_asg (pe_ix ix_list (pv 0) (pv 1) (fun _ _ => rfl)) (pg_tup rfl (pgs_cons (pg_name (i := 4) sc__term.nd rfl (Or.inl rfl)) (pgs_cons (pg_name (i := 5) sc__term.nd rfl (Or.inl rfl)) (pgs_cons (pg_name (i := 6) sc__term.nd rfl (Or.inl rfl)) pgs_nil)))))
      (pss_cons (ps_if (pt_cmpR op_eq (pv 4) pe_str (nomark _)) (pss_one (ps_ret (pe_tup (pa_cons (pe_tup (pa_cons pe_str (pa_cons (pv 5) pa_nil))) (pa_cons (pe_op op_add (pv 1) pe_int) pa_nil))))) pss_nil)
      (pss_cons (ps_if (pt_cmpR op_eq (pv 4) pe_str (nomark _)) (pss_one (Kn.ps_xk Z_BadToken hr (by omega) rfl (takes_of rfl rfl rfl rfl) (by rfl) (pa_cons (pv 6) (pa_cons pe_str pa_nil)))) pss_nil)
      (pss_cons (ps_if (pt_cmpR op_eq (Kn.pe_cl C__sign hr (by omega) (by rfl) (pa_cons (pv 0) (pa_cons (pe_op op_add (pv 1) pe_int) pa_nil))) pe_str (nomark _)) (pss_one (ps_ret (Kn.pe_clX C__call hr (by omega) (by rfl) (takes_of rfl rfl rfl rfl) (pa_cons (pv 0) (pa_cons (pv 1) (pa_cons (pv 2) (pa_cons (pv 3) pa_nil))))))) pss_nil)
      (pss_cons (ps_if (pt_not (pt_val (Kn.pe_cl C_is_identifier hr (by omega) (by rfl) (pa_cons (pv 5) pa_nil)))) (pss_one (Kn.ps_xk Z_BadToken hr (by omega) rfl (takes_of rfl rfl rfl rfl) (by rfl) (pa_cons (pv 6) (pa_cons pe_str pa_nil)))) pss_nil)
      (pss_cons (ps_if (pt_cmpR op_notIn_seq (pv 5) (pv 2) rfl) (pss_one (Kn.ps_xk Z_BadToken hr (by omega) rfl (takes_of rfl rfl rfl rfl) (by rfl) (pa_cons (pv 6) (pa_cons pe_str pa_nil)))) pss_nil)
      (pss_one (ps_ret (pe_tup (pa_cons (pe_tup (pa_cons pe_str (pa_cons (pv 5) pa_nil))) (pa_cons (pe_op op_add (pv 1) pe_int) pa_nil)))))))))))), ?_⟩
    refine q_dropS (ea_cons (ev_var rfl) (ea_cons (ev_var rfl) ea_nil)) fun H1 e1 => ?_
    refine ⟨p, ts, a, rfl, hT.mono e1, fun hlt H2 e2 => ?_, fun hge d H' e hd => ?_⟩
    rotate_left
    · unfold termG at hm
      rw [List.getElem?_eq_none_iff.mpr hge] at hm
      exact qe 0 missT (Option.some.inj hm).symm d H' (e1.trans e) hd
    have eg := List.getElem?_eq_getElem hlt
    generalize ts[a] = x at eg
    unfold termG at hm
    rw [eg] at hm
    dsimp only at hm
    have e12 := e1.trans e2
    obtain ⟨z, hz, ez⟩ := (hT.mono e12).at_ (K := K) eg
    refine q_asgG (ez (ev_var rfl) (ev_var rfl)) fun H3 e3 => ?_
    refine unp3 (e3 _ _ hz) ?_
    have e13 := e12.trans e3
    refine q_when (b := decide (x.1 = kStr)) (et_test (ev_op (ev_var rfl) (ev_cS (l := kStr) rfl) rv_eqS)) (fun h H4 e4 => ?_) fun h H4 e4 => ?_
    · rw [if_pos (of_decide_eq_true h)] at hm
      exact s_retD (evd_tup (eda_cons (evd_tup (eda_cons (evd_cS (l := lit "text") rfl) (eda_cons (evd_str (ev_var rfl)) eda_nil)) (by show 2 ≤ 100000; decide)) (eda_cons (evd_int (ev_addN (m := 1) (ev_var rfl) rfl)) eda_nil)) (by show 2 ≤ 100000; decide)) ((q _ _ (Option.some.inj hm).symm).mono (e13.trans e4))
    rw [if_neg (of_decide_eq_false h)] at hm
    refine q_when (b := decide (x.1 = kSig)) (et_test (ev_op (ev_var rfl) (ev_cS (l := kSig) rfl) rv_eqS)) (fun h H5 e5 => ?_) fun h H5 e5 => ?_
    · rw [if_pos (of_decide_eq_true h)] at hm
      obtain ⟨hc, hr1⟩ := errG_some hm
      exact raise2 (W := fun cls d _ H => E cls d H) (c := x.2.2) G.x_BadToken.oe (nf2 G) ⟨by decide +kernel, hc⟩ (ev_var rfl) (ev_cS (l := unexp) rfl) fun d2 H' e hd2 => qe _ _ hr1 d2 H' (((e13.trans e4).trans e5).trans e) hd2
    rw [if_neg (of_decide_eq_false h)] at hm
    have e15 := (e13.trans e4).trans e5
    refine q_when (b := decide (sgn ts (a + 1) = [40])) (et_test (ev_op (ev_sign (ea_cons (ev_var rfl) (ea_cons (ev_addN (m := 1) (ev_var rfl) rfl) ea_nil)) (hT.mono e15)) (ev_cS (l := [40]) rfl) rv_eqS)) (fun h H6 e6 => ?_) fun h H6 e6 => ?_
    · rw [if_pos (of_decide_eq_true h)] at hm
      refine s_retS (ea_cons (ev_var rfl) (ea_cons (ev_var rfl) (ea_cons (ev_var rfl) (ea_cons (ev_var rfl) ea_nil)))) fun H7 e7 => ?_
      have e17 := (e15.trans e6).trans e7
      exact ⟨p, pk, ts, ks, a, dp, x, r, rfl, hT.mono e17, hK.mono e17, eg, hm, fun d b hr1 => (q d b hr1).mono e17, fun c why hr1 => (qe c why hr1).mono e17⟩
    rw [if_neg (of_decide_eq_false h)] at hm
    have e16 := e15.trans e6
    have hlen : x.2.1.length ≤ 40000 := by
      split at hm
      · split at hm
        · next hz => exact hz
        · cases hm
      · next hi =>
        unfold idOk at hi
        have h1 : decide (x.2.1.length ≤ 12) = true := by
          cases h2 : decide (x.2.1.length ≤ 12) with
          | true => rfl
          | false =>
            rw [h2] at hi
            simp at hi
        have := of_decide_eq_true h1
        omega
    refine q_when (b := !idOk x.2.1) (et_not (et_B (ev_c1 (a := x.2.1) (ea_cons (ev_var rfl) ea_nil) fun _ _ => hlen))) (fun h H7 e7 => ?_) fun h H7 e7 => ?_
    · rw [Bool.not_eq_true'] at h
      rw [if_pos h, if_pos hlen] at hm
      obtain ⟨hc, hr1⟩ := errG_some hm
      exact raise2 (W := fun cls d _ H => E cls d H) (c := x.2.2) G.x_BadToken.oe (nf2 G) ⟨by decide +kernel, hc⟩ (ev_var rfl) (ev_cS (l := invName) rfl) fun d2 H' e hd2 => qe _ _ hr1 d2 H' ((e16.trans e7).trans e) hd2
    rw [Bool.not_eq_false'] at h
    rw [if_neg (by rw [h]; decide)] at hm
    have hK7 := hK.mono (e16.trans e7)
    refine q_when (b := !decide (x.2.1 ∈ ks)) (et_is (et_test (ev_op (ev_var rfl) (ev_var rfl) (rv_niL (sq_of hK7.1) rfl (flat_S ks)))) (by rw [inV_S])) (fun h H8 e8 => ?_) fun h H8 e8 => ?_
    · rw [Bool.not_eq_true'] at h
      rw [if_pos (of_decide_eq_false h)] at hm
      obtain ⟨hc, hr1⟩ := errG_some hm
      exact raise2 (W := fun cls d _ H => E cls d H) (c := x.2.2) G.x_BadToken.oe (nf2 G) ⟨by decide +kernel, hc⟩ (ev_var rfl) (ev_cS (l := unkName) rfl) fun d2 H' e hd2 => qe _ _ hr1 d2 H' (((e16.trans e7).trans e8).trans e) hd2
    rw [Bool.not_eq_false'] at h
    rw [if_neg (fun z => z (of_decide_eq_true h))] at hm
    exact s_retD (evd_tup (eda_cons (evd_tup (eda_cons (evd_cS (l := lit "name") rfl) (eda_cons (evd_str (ev_var rfl)) eda_nil)) (by show 2 ≤ 100000; decide)) (eda_cons (evd_int (ev_addN (m := 1) (ev_var rfl) rfl)) eda_nil)) (by show 2 ≤ 100000; decide)) ((q _ _ (Option.some.inj hm).symm).mono ((e16.trans e7).trans e8))
theorem ok__call {f : Addr} {fd : FuncData} {lv n : Nat} (F : Fun K "_call" "_call" s__call f fd) (T : Tx mg) (G : Gx K mg) (C__sign : Kn.Cl P w K mg base 1 "_sign" (sp__sign K)) (C__check_behind : Kn.ClX P w K mg base 4 "_check_behind" (sp__check_behind G)) (C__expression : Kn.ClX P w K mg base (lv + 5) "_expression" (sp__expression G n)) (Z_BadToken : Kn.Xk P w K mg base 1 "BadToken" G.c_BadToken (sp_I2 K)) {D_FUNCTIONS : Addr} (W_FUNCTIONS : Kn.WD K w mg "FUNCTIONS" D_FUNCTIONS funF) : FnOk P w K mg base (L2.CX P w) (lv + 6) f fd ["tokens", "at", "known", "depth"] (sp__call G n) := by
  refine F.okX sc__call (fun vs H Q E h => ?_) (fun cdv A outer s H vs Q E hr h => ?_)
  · obtain ⟨p, pk, ts, ks, a, dp, x, r, rfl, _⟩ := h
    rfl
  · obtain ⟨p, pk, ts, ks, a, dp, x, r, rfl, hT, hK, eg, hm, q, qe⟩ := h
    refine ⟨_, (pss_cons (ps_asg (pe_ix ix_list (pv 0) (pv 1) (fun _ _ => rfl)) (pg_tup rfl (pgs_cons (pg_name (i := 4) sc__call.nd rfl (Or.inl rfl)) (pgs_cons (pg_name (i := 5) sc__call.nd rfl (Or.inl rfl)) (pgs_cons (pg_name (i := 6) sc__call.nd rfl (Or.inl rfl)) pgs_nil)))))
      (pss_cons (ps_if (pt_cmpR op_ge (pv 3) (C8.pe_gc (by rfl) T.c_MOST_CALLS) (nomark _)) (pss_one (Kn.ps_xk Z_BadToken hr (by omega) rfl (takes_of rfl rfl rfl rfl) (by rfl) (pa_cons (pv 6) (pa_cons pe_str pa_nil)))) pss_nil)
      (pss_cons (ps_if (pt_cmpR (Kn.op_notIn_wd W_FUNCTIONS) (pv 5) (Kn.pe_wd W_FUNCTIONS (by rfl)) rfl) (pss_one (Kn.ps_xk Z_BadToken hr (by omega) rfl (takes_of rfl rfl rfl rfl) (by rfl) (pa_cons (pv 6) (pa_cons pe_str pa_nil)))) pss_nil)
      (pss_cons (ps_set (i := 7) sc__call.nd rfl (Or.inl rfl) (pe_lst pa_nil))
      (pss_cons (ps_set (i := 8) sc__call.nd rfl (Or.inl rfl) (pe_op op_add (pv 1) pe_int))
      (pss_cons (ps_while (passes_of rfl) (pt_cmpR op_lt (pe_callB Kn.cr_lenSeq (by rfl) T.b_len PySem.boot_len (pa_cons (pv 7) pa_nil)) (pe_ix (Kn.ix_wd W_FUNCTIONS) (Kn.pe_wd W_FUNCTIONS (by rfl)) (pv 5) (fun _ _ => rfl)) (nomark _)) (pss_cons (ps_if (pt_cmpR op_eq (Kn.pe_cl C__sign hr (by omega) (by rfl) (pa_cons (pv 0) (pa_cons (pe_op op_add (pv 8) pe_int) pa_nil))) pe_str (nomark _)) (pss_one (Kn.ps_xk Z_BadToken hr (by omega) rfl (takes_of rfl rfl rfl rfl) (by rfl) (pa_cons (pe_ix ix_tup (pe_ix ix_list (pv 0) (pe_op op_add (pv 8) pe_int) (fun _ _ => rfl)) pe_int (fun _ _ => rfl)) (pa_cons pe_str pa_nil)))) pss_nil)
      (pss_cons (ps_asg (Kn.pe_clX C__expression hr (by omega) (by rfl) (takes_of rfl rfl rfl rfl) (pa_cons (pv 0) (pa_cons (pe_op op_add (pv 8) pe_int) (pa_cons (pv 2) (pa_cons (pe_op op_add (pv 3) pe_int) pa_nil))))) (pg_tup rfl (pgs_cons (pg_name (i := 9) sc__call.nd rfl (Or.inl rfl)) (pgs_cons (pg_name (i := 8) sc__call.nd rfl (Or.inl rfl)) pgs_nil))))
      (pss_cons (ps_expr (pe_bm PySem.F.plainAttrs_list PySem.F.slot_list_append PySem.F.type_list_append mt_append (pv 7) (pa_cons (pv 9) pa_nil)))
      (pss_one (ps_expr (Kn.pe_clX C__check_behind hr (by omega) (by rfl) (takes_of rfl rfl rfl rfl) (pa_cons (pv 0) (pa_cons (pv 8) (pa_cons (pe_op op_sub (pe_ix (Kn.ix_wd W_FUNCTIONS) (Kn.pe_wd W_FUNCTIONS (by rfl)) (pv 5) (fun _ _ => rfl)) (pe_callB Kn.cr_lenSeq (by rfl) T.b_len PySem.boot_len (pa_cons (pv 7) pa_nil))) pa_nil))))))))))
      (pss_one (ps_ret (pe_tup (pa_cons (pe_tup (pa_cons pe_str (pa_cons (pv 5) (pa_cons (pe_callTy call_tuple_of (by rfl) T.b_tuple (by decide +kernel) (pa_cons (pv 7) pa_nil)) pa_nil)))) (pa_cons (pe_op op_add (pv 8) pe_int) pa_nil))))))))))), ?_⟩
    unfold callG at hm
    rw [eg] at hm
    dsimp only at hm
    obtain ⟨z, hz, ez⟩ := hT.at_ (K := K) eg
    refine q_asgG (ez (ev_var rfl) (ev_var rfl)) fun H1 e1 => ?_
    refine unp3 (e1 _ _ hz) ?_
    refine q_when (b := decide (6 ≤ dp)) (et_is (et_test (ev_op (ev_var rfl) (ev_c (v := .int ((6 : Nat) : Int))) rv_ge)) (by rw [decide_eq_decide]; omega)) (fun h H2 e2 => ?_) fun h H2 e2 => ?_
    · rw [if_pos (of_decide_eq_true h)] at hm
      obtain ⟨hc, hr1⟩ := errG_some hm
      exact raise2 (W := fun cls d _ H => E cls d H) (c := x.2.2) G.x_BadToken.oe (nf2 G) ⟨by decide +kernel, hc⟩ (ev_var rfl) (ev_cS (l := tooDeep) rfl) fun d2 H' e hd2 => qe _ _ hr1 d2 H' ((e1.trans e2).trans e) hd2
    rw [if_neg (of_decide_eq_false h)] at hm
    refine q_when (b := !(arity x.2.1).isSome) (et_is (et_test (ev_op (ev_var rfl) ev_c rv_wnin)) (by rw [fun_look, Option.isSome_map])) (fun h H3 e3 => ?_) fun h H3 e3 => ?_
    · have ha : arity x.2.1 = none := by
        cases ha : arity x.2.1 with
        | none => rfl
        | some n => rw [ha] at h; cases h
      rw [ha] at hm
      dsimp only at hm
      obtain ⟨hc, hr1⟩ := errG_some hm
      exact raise2 (W := fun cls d _ H => E cls d H) (c := x.2.2) G.x_BadToken.oe (nf2 G) ⟨by decide +kernel, hc⟩ (ev_var rfl) (ev_cS (l := unkFun) rfl) fun d2 H' e hd2 => qe _ _ hr1 d2 H' (((e1.trans e2).trans e3).trans e) hd2
    have ha : ∃ n, arity x.2.1 = some n := by
      cases ha : arity x.2.1 with
      | none => rw [ha] at h; cases h
      | some n => exact ⟨n, rfl⟩
    obtain ⟨N, ha⟩ := ha
    rw [ha] at hm
    dsimp only at hm
    have hN : N ≤ 3 := by
      unfold arity at ha
      cases hf : funT.find? fun y => decide (y.1 = x.2.1) with
      | none => rw [hf] at ha; cases ha
      | some y =>
        rw [hf] at ha
        cases ha
        exact (show ∀ y ∈ funT, y.2 ≤ 3 by decide +kernel) y (List.mem_of_find?_eq_some hf)
    have hlook : wdLook funF (S x.2.1) = some (.int (N : Int)) := by rw [fun_look, ha]; rfl
    have e13 := (e1.trans e2).trans e3
    refine q_asgL (el_lst ea_nil (by decide)) fun pa H4 np e4 hp4 => ?_
    refine q_asg (v := .int ((a + 1 : Nat) : Int)) (ev_addN (m := 1) (ev_var rfl) rfl) fun H5 e5 => ?_
    have e15 := (e13.trans e4).trans e5
    have npH := fresh_back e13 np
    have hexp : NoLs (exprN ts ks n (dp + 1)) := expr_noL n (dp + 1)
    refine q_while (fun m σ' H' => ∃ (b : Nat) (acc : List PyData) (vs2 : List V) (y : Option V), N = acc.length + m ∧ σ' = [some (.ref p), some (.int (a : Int)), some (.ref pk), some (.int (dp : Int)), some (.str (S x.1)), some (.str (S x.2.1)), some (.int (x.2.2 : Int)), some (.ref pa), some (.int (b : Int)), y] ∧ Ex H H' ∧ H' pa = some (.lst vs2) ∧ DtA H' vs2 acc ∧ noLA acc = true ∧ argsG (exprN ts ks n (dp + 1)) ts x.2.1 m acc b = some r) N ⟨a + 1, [], [], _, by show N = 0 + N; omega, rfl, e15, e5 _ _ hp4, .nil, by unfold noLA; rfl, hm⟩ ?_
    rintro m σ' H6 ⟨b, acc, vs2, y, hNm, rfl, e6, hp6, hD6, hnl, hm6⟩
    have hvl := hD6.len
    refine ⟨decide (acc.length < N), et_is (et_test (ev_op (ev_len (ev_var rfl) (sq_of hp6)) (ev_op ev_c (ev_var rfl) (rv_wix hlook)) rv_lt)) (by rw [hvl, decide_eq_decide]; omega), fun h H7 e7 => ?_, fun h H7 e7 => ?_⟩
    · have hlt := of_decide_eq_true h
      cases m with
      | zero => omega
      | succ m =>
      have e67 := e6.trans e7
      unfold argsG at hm6
      refine ⟨fun σ' H' => ∃ (b : Nat) (acc : List PyData) (vs2 : List V) (y : Option V), N = acc.length + m ∧ σ' = [some (.ref p), some (.int (a : Int)), some (.ref pk), some (.int (dp : Int)), some (.str (S x.1)), some (.str (S x.2.1)), some (.int (x.2.2 : Int)), some (.ref pa), some (.int (b : Int)), y] ∧ Ex H H' ∧ H' pa = some (.lst vs2) ∧ DtA H' vs2 acc ∧ noLA acc = true ∧ argsG (exprN ts ks n (dp + 1)) ts x.2.1 m acc b = some r, fun σ2 H2 h => ⟨m, Nat.lt_succ_self m, h⟩, ?_⟩
      refine q_when (b := decide (sgn ts (b + 1) = [41])) (et_test (ev_op (ev_sign (ea_cons (ev_var rfl) (ea_cons (ev_addN (m := 1) (ev_var rfl) rfl) ea_nil)) (hT.mono e67)) (ev_cS (l := [41]) rfl) rv_eqS)) (fun h H8 e8 => ?_) fun h H8 e8 => ?_
      · rw [if_pos (of_decide_eq_true h)] at hm6
        cases hx2 : ts[b + 1]? with
        | none => rw [hx2] at hm6; cases hm6
        | some x2 =>
          rw [hx2] at hm6
          dsimp only at hm6
          obtain ⟨hc, hr1⟩ := errG_some hm6
          have e68 := e67.trans e8
          obtain ⟨z2, hz2, ez2⟩ := (hT.mono e68).at_ (K := K) hx2
          exact raise2 (W := fun cls d _ H => E cls d H) (c := x2.2.2) G.x_BadToken.oe (nf2 G) ⟨by decide +kernel, hc⟩ (ev_op (ez2 (ev_var rfl) (ev_addN (m := 1) (ev_var rfl) rfl)) ev_c (rv_ix0 (i := 2) (st_of hz2) rfl)) (ev_cS (l := missA) rfl) fun d2 H' e hd2 => qe _ _ hr1 d2 H' (e68.trans e) hd2
      rw [if_neg (of_decide_eq_false h)] at hm6
      have e68 := e67.trans e8
      refine q_asgS (ea_cons (ev_var rfl) (ea_cons (ev_addN (m := 1) (ev_var rfl) rfl) (ea_cons (ev_var rfl) (ea_cons (ev_addN (m := 1) (ev_var rfl) rfl) ea_nil)))) fun H9 e9 => ?_
      have e69 := e68.trans e9
      cases he : exprN ts ks n (dp + 1) (b + 1) with
      | none => rw [he] at hm6; cases hm6
      | some r1 =>
        rw [he] at hm6
        refine ⟨p, pk, ts, ks, b + 1, dp + 1, r1, rfl, hT.mono e69, hK.mono e69, he, fun d b2 hr1 v Ha ea hv => ?_, fun c why hr1 d H' e hd => ?_⟩
        · subst hr1
          dsimp only at hm6
          obtain ⟨qa, v1, rfl, hqa, hv1⟩ := pairE_inv hv
          refine unp2 hqa ?_
          have hpa := ea _ _ (e9 _ _ (e8 _ _ (e7 _ _ hp6)))
          have hDa := (((hD6.mono e7).mono e8).mono e9).mono ea
          refine q_appD (d := d) hpa (ev_var rfl) (evd_of (ev_var rfl) hv1) (by omega) fun v8 Hb eb hv8 => ?_
          have eF := Ex.mut (o := .lst (vs2 ++ [v8])) ((e69.trans ea).trans eb) npH
          have hDb := dta_app (eb _ _ hpa) (hDa.mono eb) hv8 hnl (hexp _ _ _ he)
          have hlb : (acc ++ [d]).length = acc.length + 1 := by rw [List.length_append]; rfl
          refine s_dropS (vs := [.ref p, .int (b2 : Int), .int (m : Int)]) (ea_cons (ev_var rfl) (ea_cons (ev_var rfl) (ea_cons (ev_is (ev_op (ev_op ev_c (ev_var rfl) (rv_wix hlook)) (ev_len (ev_var rfl) (sq_of upd_same)) rv_I0) (by rw [hDb.len, hlb, hNm]; congr 1; omega)) ea_nil))) fun Hc ec => ?_
          refine ⟨p, ts, b2, m, rfl, hT.mono (eF.trans ec), fun hck Hd ed => ?_, fun c why hck => ?_⟩
          · rw [hck] at hm6
            dsimp only at hm6
            exact ⟨b2, acc ++ [d], vs2 ++ [v8], _, by omega, rfl, (eF.trans ec).trans ed, ed _ _ (ec _ _ upd_same), (hDb.mono ec).mono ed, noLA_snoc hnl (hexp _ _ _ he), hm6⟩
          · rw [hck] at hm6
            dsimp only at hm6
            obtain ⟨hc, hr1⟩ := errG_some hm6
            exact ⟨hc, (qe _ _ hr1).mono (eF.trans ec)⟩
        · subst hr1
          dsimp only at hm6
          exact qe c why (Option.some.inj hm6).symm d H' (e69.trans e) hd
    · have hge := of_decide_eq_false h
      have hm0 : m = 0 := by omega
      subst hm0
      unfold argsG at hm6
      exact s_retD (evd_tup (eda_cons (evd_tup (eda_cons (evd_cS (l := lit "call") rfl) (eda_cons (evd_str (ev_var rfl)) (eda_cons (evd_tupOf (ev_var rfl) (e7 _ _ hp6) (hD6.mono e7)) eda_nil))) (by show 3 ≤ 100000; decide)) (eda_cons (evd_int (ev_addN (m := 1) (ev_var rfl) rfl)) eda_nil)) (by show 2 ≤ 100000; decide)) ((q _ _ (Option.some.inj hm6).symm).mono (e6.trans e7))
theorem ok__expression {f : Addr} {fd : FuncData} {lv n : Nat} (F : Fun K "_expression" "_expression" s__expression f fd) (T : Tx mg) (G : Gx K mg) (C__term : Kn.ClX P w K mg base (lv + 7) "_term" (sp__term G n)) (C__sign : Kn.Cl P w K mg base 1 "_sign" (sp__sign K)) : FnOk P w K mg base (L2.CX P w) (lv + 8) f fd ["tokens", "start", "known", "depth"] (sp__expression G (n + 1)) := by
  refine F.okX sc__expression (fun vs H Q E h => ?_) (fun cdv A outer s H vs Q E hr h => ?_)
  · obtain ⟨p, pk, ts, ks, a, dp, r, rfl, _⟩ := h
    rfl
  · obtain ⟨p, pk, ts, ks, a, dp, r, rfl, hT, hK, hm, q, qe⟩ := h
    refine ⟨_, (pss_cons (ps_asg (Kn.pe_clX C__term hr (by omega) (by rfl) (takes_of rfl rfl rfl rfl) (pa_cons (pv 0) (pa_cons (pv 1) (pa_cons (pv 2) (pa_cons (pv 3) pa_nil))))) (pg_tup rfl (pgs_cons (pg_name (i := 4) sc__expression.nd rfl (Or.inl rfl)) (pgs_cons (pg_name (i := 5) sc__expression.nd rfl (Or.inl rfl)) pgs_nil))))
      (pss_cons (ps_set (i := 6) sc__expression.nd rfl (Or.inl rfl) (pe_lst (pa_cons (pv 4) pa_nil)))
      (pss_cons (ps_while (passes_of rfl) (pt_cmpR op_eq (Kn.pe_cl C__sign hr (by omega) (by rfl) (pa_cons (pv 0) (pa_cons (pv 5) pa_nil))) pe_str (nomark _)) (pss_cons (ps_asg (Kn.pe_clX C__term hr (by omega) (by rfl) (takes_of rfl rfl rfl rfl) (pa_cons (pv 0) (pa_cons (pe_op op_add (pv 5) pe_int) (pa_cons (pv 2) (pa_cons (pv 3) pa_nil))))) (pg_tup rfl (pgs_cons (pg_name (i := 4) sc__expression.nd rfl (Or.inl rfl)) (pgs_cons (pg_name (i := 5) sc__expression.nd rfl (Or.inl rfl)) pgs_nil))))
      (pss_one (ps_expr (pe_bm PySem.F.plainAttrs_list PySem.F.slot_list_append PySem.F.type_list_append mt_append (pv 6) (pa_cons (pv 4) pa_nil))))))
      (pss_cons (ps_if (pt_cmpR op_eq (pe_callB Kn.cr_lenSeq (by rfl) T.b_len PySem.boot_len (pa_cons (pv 6) pa_nil)) pe_int (nomark _)) (pss_one (ps_ret (pe_tup (pa_cons (pv 4) (pa_cons (pv 5) pa_nil))))) pss_nil)
      (pss_one (ps_ret (pe_tup (pa_cons (pe_tup (pa_cons pe_str (pa_cons (pe_callTy call_tuple_of (by rfl) T.b_tuple (by decide +kernel) (pa_cons (pv 6) pa_nil)) pa_nil))) (pa_cons (pv 5) pa_nil))))))))), ?_⟩
    unfold exprN at hm
    have htm : NoLs (termG (callG (exprN ts ks n (dp + 1)) ts dp) ts ks) := term_noL (call_noL (expr_noL n (dp + 1)))
    generalize hter : termG (callG (exprN ts ks n (dp + 1)) ts dp) ts ks = ter at hm htm
    refine q_asgS (ea_cons (ev_var rfl) (ea_cons (ev_var rfl) (ea_cons (ev_var rfl) (ea_cons (ev_var rfl) ea_nil)))) fun H1 e1 => ?_
    cases he : ter a with
    | none => rw [he] at hm; cases hm
    | some r1 =>
      rw [he] at hm
      refine ⟨p, pk, ts, ks, a, dp, r1, rfl, hT.mono e1, hK.mono e1, by rw [hter]; exact he, fun d b hr1 v H2 e2 hv => ?_, fun c why hr1 d H' e hd => ?_⟩
      rotate_left
      · subst hr1
        dsimp only at hm
        exact qe c why (Option.some.inj hm).symm d H' (e1.trans e) hd
      subst hr1
      dsimp only at hm
      obtain ⟨qa, v1, rfl, hqa, hv1⟩ := pairE_inv hv
      refine unp2 hqa ?_
      have e12 := e1.trans e2
      refine q_asgL (el_lst (ea_cons (ev_var rfl) ea_nil) (by show 1 ≤ 100000; decide)) fun pa H3 np e3 hp3 => ?_
      have npH := fresh_back e12 np
      refine q_while (fun m σ' H' => ∃ (b : Nat) (d : PyData) (v1 : V) (acc : List PyData) (vs2 : List V), σ' = [some (.ref p), some (.int (a : Int)), some (.ref pk), some (.int (dp : Int)), some v1, some (.int (b : Int)), some (.ref pa)] ∧ Ex H H' ∧ H' pa = some (.lst vs2) ∧ DtA H' vs2 acc ∧ noLA acc = true ∧ noL d = true ∧ Dt H' v1 d ∧ acc.length ≤ 2000 ∧ moreG ter ts m acc d b = some r) (ts.length + 1) ⟨b, d, v1, [d], [v1], rfl, e12.trans e3, hp3, .cons (hv1.mono e3) .nil, noLA_snoc (ds := []) (by unfold noLA; rfl) (htm _ _ _ he), htm _ _ _ he, hv1.mono e3, by show 1 ≤ 2000; decide, hm⟩ ?_
      clear hm he hv1 hp3 hqa
      rintro m σ' H4 ⟨b, d, v1, acc, vs2, rfl, e4, hp4, hD4, hnl, hnd, hv1, hacc, hm4⟩
      have hvl := hD4.len
      cases m with
      | zero => unfold moreG at hm4; cases hm4
      | succ m =>
      unfold moreG at hm4
      refine ⟨decide (sgn ts b = [43]), et_test (ev_op (ev_sign (ea_cons (ev_var rfl) (ea_cons (ev_var rfl) ea_nil)) (hT.mono e4)) (ev_cS (l := [43]) rfl) rv_eqS), fun h H5 e5 => ?_, fun h H5 e5 => ?_⟩
      · rw [if_pos (of_decide_eq_true h)] at hm4
        refine ⟨fun σ' H' => ∃ (b : Nat) (d : PyData) (v1 : V) (acc : List PyData) (vs2 : List V), σ' = [some (.ref p), some (.int (a : Int)), some (.ref pk), some (.int (dp : Int)), some v1, some (.int (b : Int)), some (.ref pa)] ∧ Ex H H' ∧ H' pa = some (.lst vs2) ∧ DtA H' vs2 acc ∧ noLA acc = true ∧ noL d = true ∧ Dt H' v1 d ∧ acc.length ≤ 2000 ∧ moreG ter ts m acc d b = some r, fun σ2 H2 h => ⟨m, Nat.lt_succ_self m, h⟩, ?_⟩
        refine q_asgS (ea_cons (ev_var rfl) (ea_cons (ev_addN (m := 1) (ev_var rfl) rfl) (ea_cons (ev_var rfl) (ea_cons (ev_var rfl) ea_nil)))) fun H6 e6 => ?_
        have e46 := (e4.trans e5).trans e6
        cases he : ter (b + 1) with
        | none => rw [he] at hm4; cases hm4
        | some r1 =>
          rw [he] at hm4
          refine ⟨p, pk, ts, ks, b + 1, dp, r1, rfl, hT.mono e46, hK.mono e46, by rw [hter]; exact he, fun d2 b2 hr1 v H7 e7 hv => ?_, fun c why hr1 d H' e hd => ?_⟩
          rotate_left
          · subst hr1
            dsimp only at hm4
            exact qe c why (Option.some.inj hm4).symm d H' (e46.trans e) hd
          subst hr1
          dsimp only at hm4
          have hacc2 : acc.length < 1000 := by
            split at hm4
            · next hz => exact hz
            · cases hm4
          rw [if_pos hacc2] at hm4
          obtain ⟨qa, v2, rfl, hqa, hv2⟩ := pairE_inv hv
          refine unp2 hqa ?_
          have hp7 := e7 _ _ (e6 _ _ (e5 _ _ hp4))
          have hD7 := ((hD4.mono e5).mono e6).mono e7
          have hn2 := htm _ _ _ he
          refine s_appD (d := d2) hp7 (ev_var rfl) (evd_of (ev_var rfl) hv2) (by omega) fun v8 Hb eb hv8 => ?_
          have eF := Ex.mut (o := .lst (vs2 ++ [v8])) ((e46.trans e7).trans eb) npH
          have hDb := dta_app (eb _ _ hp7) (hD7.mono eb) hv8 hnl hn2
          exact ⟨b2, d2, v2, acc ++ [d2], vs2 ++ [v8], rfl, eF, upd_same, hDb, noLA_snoc hnl hn2, hn2, (hv2.mono eb).upd (eb _ _ hp7) (fun _ z => nomatch z) hn2, by rw [List.length_append]; show _ + 1 ≤ 2000; omega, hm4⟩
      · rw [if_neg (of_decide_eq_false h)] at hm4
        have e45 := e4.trans e5
        refine q_when (b := decide (acc.length = 1)) (et_is (et_test (ev_op (ev_len (ev_var rfl) (sq_of (e5 _ _ hp4))) ev_c rv_eqI)) (by rw [hvl, decide_eq_decide]; omega)) (fun h H6 e6 => ?_) fun h H6 e6 => ?_
        · rw [if_pos (of_decide_eq_true h)] at hm4
          exact s_retD (evd_tup (eda_cons (evd_of (ev_var rfl) ((hv1.mono e5).mono e6)) (eda_cons (evd_int (ev_var rfl)) eda_nil)) (by show 2 ≤ 100000; decide)) ((q _ _ (Option.some.inj hm4).symm).mono (e45.trans e6))
        · rw [if_neg (of_decide_eq_false h)] at hm4
          exact s_retD (evd_tup (eda_cons (evd_tup (eda_cons (evd_cS (l := lit "join") rfl) (eda_cons (evd_tupOf (ev_var rfl) (e6 _ _ (e5 _ _ hp4)) ((hD4.mono e5).mono e6)) eda_nil)) (by show 2 ≤ 100000; decide)) (eda_cons (evd_int (ev_var rfl)) eda_nil)) (by show 2 ≤ 100000; decide)) ((q _ _ (Option.some.inj hm4).symm).mono (e45.trans e6))
def sp_parse_expression (G : Gx K mg) : Sp := fun vs H Q E => ∃ (p pk : Addr) (ts : List Tok3) (ks : List (List Nat)) (a : Nat) (r : Rs (PyData × Nat)), vs = [.ref p, .int (a : Int), .ref pk] ∧ TLs H p ts ∧ KnL H pk ks ∧ exprN ts ks 7 0 a = some r ∧ RdE H Q E G.c_BadToken r
theorem ok_parse_expression {f : Addr} {fd : FuncData} (F : Fun K "parse_expression" "parse_expression" s_parse_expression f fd) (T : Tx mg) (G : Gx K mg) (C__expression : Kn.ClX P w K mg base 26 "_expression" (sp__expression G 7)) : FnOk P w K mg base (L2.CX P w) 27 f fd ["tokens", "start", "known"] (sp_parse_expression G) := by
  refine F.okX sc_parse_expression (fun vs H Q E h => ?_) (fun cdv A outer s H vs Q E hr h => ?_)
  · obtain ⟨p, pk, ts, ks, a, r, rfl, _⟩ := h
    rfl
  · obtain ⟨p, pk, ts, ks, a, r, rfl, hT, hK, hm, q, qe⟩ := h
    refine ⟨_, (pss_one (ps_ret (Kn.pe_clX C__expression hr (by decide) (by rfl) (takes_of rfl rfl rfl rfl) (pa_cons (pv 0) (pa_cons (pv 1) (pa_cons (pv 2) (pa_cons pe_int pa_nil))))))), ?_⟩
    refine s_retS (ea_cons (ev_var rfl) (ea_cons (ev_var rfl) (ea_cons (ev_var rfl) (ea_cons (ev_c (v := .int ((0 : Nat) : Int))) ea_nil)))) fun H1 e1 => ?_
    exact ⟨p, pk, ts, ks, a, 0, r, rfl, hT.mono e1, hK.mono e1, hm, fun d b hr1 => (q d b hr1).mono e1, fun c why hr1 => (qe c why hr1).mono e1⟩
end

--SPLIT
/-! ### the tokens of what is written -/
section
abbrev KT := List Nat × List Nat
def kt (x : Tok3) : KT := (x.1, x.2.1)
def ScF (s : List Nat) (k : List KT) : Prop := ∀ (l : List Nat) (b : Nat) (acc : List Tok3) (rest : List Nat), l.drop b = s ++ rest → ∃ ts, scanG l l.length (skip l b) acc = scanG l l.length (skip l (b + s.length)) (acc ++ ts) ∧ ts.map kt = k
def Bnd (r : List Nat) : Prop := r = [] ∨ ∃ c q, r = c :: q ∧ c ∈ WEN
def ScB (s : List Nat) (k : List KT) : Prop := ∀ (l : List Nat) (b : Nat) (acc : List Tok3) (rest : List Nat), l.drop b = s ++ rest → Bnd rest → ∃ ts, scanG l l.length (skip l b) acc = scanG l l.length (skip l (b + s.length)) (acc ++ ts) ∧ ts.map kt = k
theorem ScF.b {s : List Nat} {k : List KT} (h : ScF s k) : ScB s k := fun l b acc rest hd _ => h l b acc rest hd
theorem drop_app {l s r : List Nat} {b : Nat} (h : l.drop b = s ++ r) : l.drop (b + s.length) = r := by rw [← List.drop_drop, h, List.drop_left]
theorem sc_ff {s1 s2 : List Nat} {k1 k2 : List KT} (h1 : ScF s1 k1) (h2 : ScF s2 k2) : ScF (s1 ++ s2) (k1 ++ k2) := fun l b acc rest hd => by
  rw [List.append_assoc] at hd
  obtain ⟨t1, e1, m1⟩ := h1 l b acc _ hd
  obtain ⟨t2, e2, m2⟩ := h2 l _ (acc ++ t1) rest (drop_app hd)
  exact ⟨t1 ++ t2, by rw [e1, e2, List.append_assoc, List.length_append, Nat.add_assoc], by rw [List.map_append, m1, m2]⟩
theorem sc_fb {s1 s2 : List Nat} {k1 k2 : List KT} (h1 : ScF s1 k1) (h2 : ScB s2 k2) : ScB (s1 ++ s2) (k1 ++ k2) := fun l b acc rest hd hb => by
  rw [List.append_assoc] at hd
  obtain ⟨t1, e1, m1⟩ := h1 l b acc _ hd
  obtain ⟨t2, e2, m2⟩ := h2 l _ (acc ++ t1) rest (drop_app hd) hb
  exact ⟨t1 ++ t2, by rw [e1, e2, List.append_assoc, List.length_append, Nat.add_assoc], by rw [List.map_append, m1, m2]⟩
theorem sc_bf {s1 s2 : List Nat} {k1 k2 : List KT} {c : Nat} {q : List Nat} (h1 : ScB s1 k1) (h2 : ScF s2 k2) (hc : s2 = c :: q) (hw : c ∈ WEN) : ScF (s1 ++ s2) (k1 ++ k2) := fun l b acc rest hd => by
  rw [List.append_assoc] at hd
  obtain ⟨t1, e1, m1⟩ := h1 l b acc _ hd (.inr ⟨c, q ++ rest, by rw [hc]; rfl, hw⟩)
  obtain ⟨t2, e2, m2⟩ := h2 l _ (acc ++ t1) rest (drop_app hd)
  exact ⟨t1 ++ t2, by rw [e1, e2, List.append_assoc, List.length_append, Nat.add_assoc], by rw [List.map_append, m1, m2]⟩
theorem sc_space : ScF [32] [] := fun l b acc rest hd => ⟨[], by rw [List.append_nil, skip_step (get_drop (r := rest) hd)]; rfl, rfl⟩
theorem sgn_ns : ∀ c ∈ SGN, c ≠ 32 ∧ c ≠ 34 := by decide +kernel
theorem sc_sign {c : Nat} (hc : c ∈ SGN) : ScF [c] [(kSig, [c])] := fun l b acc rest hd => by
  have hd : l.drop b = c :: rest := hd
  have h := sgn_ns c hc
  have ht : tokG l b = .inl (kSig, [c], b + 1) := by
    unfold tokG
    rw [hd]
    show (if c = 34 then _ else if c ∈ SGN then _ else _) = _
    rw [if_neg h.2, if_pos hc]
  exact ⟨[(kSig, [c], b + 1)], scan_tok (lt_drop hd) (by rw [get_drop hd]; exact fun z => h.1 (Option.some.inj z)) ht, rfl⟩
theorem sc_text (t : List Nat) : ScF (wr t) [(kStr, t)] := fun l b acc rest hd => by
  have hx : l.drop b = 34 :: (fm t ++ [34] ++ rest) := by rw [hd]; unfold wr; rw [List.append_assoc [34]]; rfl
  exact ⟨[(kStr, t, b + 1)], scan_tok (lt_drop hx) (by rw [get_drop hx]; decide) (tokG_str hd), rfl⟩
def GW (t : List Nat) : Prop := t ≠ [] ∧ ∀ c ∈ t, c ∉ WEN
theorem sgn_wen : ∀ c ∈ SGN, c ∈ WEN := by decide +kernel
theorem wen_q : (34 : Nat) ∈ WEN ∧ (32 : Nat) ∈ WEN ∧ (40 : Nat) ∈ WEN ∧ (41 : Nat) ∈ WEN ∧ (43 : Nat) ∈ WEN ∧ (44 : Nat) ∈ WEN := by decide +kernel
theorem sgn_q : (40 : Nat) ∈ SGN ∧ (41 : Nat) ∈ SGN ∧ (43 : Nat) ∈ SGN ∧ (44 : Nat) ∈ SGN := by decide +kernel
theorem tw_pre {p : Nat → Bool} {t r : List Nat} (h : ∀ c ∈ t, p c = true) (hr : r = [] ∨ ∃ d q, r = d :: q ∧ p d = false) : (t ++ r).takeWhile p = t := by
  induction t with
  | nil =>
    rcases hr with rfl | ⟨d, q, rfl, hd⟩
    · rfl
    · show (d :: q).takeWhile p = []
      rw [List.takeWhile_cons, hd]
      rfl
  | cons c t ih =>
    show (c :: (t ++ r)).takeWhile p = c :: t
    rw [List.takeWhile_cons, h c List.mem_cons_self, ih fun c hc => h c (List.mem_cons_of_mem _ hc)]
    rfl
theorem sc_word {t : List Nat} (g : GW t) : ScB t [(kWrd, t)] := fun l b acc rest hd hb => by
  have e : wordG l b = t := by
    unfold wordG
    rw [hd]
    refine tw_pre (fun c hc => by rw [decide_eq_false (g.2 c hc)]; rfl) ?_
    rcases hb with z | ⟨c, q, z, hc⟩
    · exact .inl z
    · exact .inr ⟨c, q, z, by rw [decide_eq_true hc]; rfl⟩
  cases t with
  | nil => exact absurd rfl g.1
  | cons c t =>
    have hc := g.2 c List.mem_cons_self
    have ht : tokG l b = .inl (kWrd, c :: t, b + (c :: t).length) := by
      unfold tokG
      rw [hd]
      show (if c = 34 then _ else if c ∈ SGN then _ else _) = _
      rw [if_neg (fun z => hc (by rw [z]; exact wen_q.1)), if_neg (fun z => hc (sgn_wen c z)), e]
    have hx : l.drop b = c :: (t ++ rest) := hd
    exact ⟨[(kWrd, c :: t, b + 1)], scan_tok (lt_drop hx) (by rw [get_drop hx]; exact fun z => hc (by rw [Option.some.inj z]; exact wen_q.2.1)) ht, rfl⟩
/-- a whole line -/
theorem sc_line {s : List Nat} {k : List KT} (h : ScB s k) (hs : ∀ c q, s = c :: q → c ≠ 35 ∧ c ≠ 32) : ∃ ts, scan s = .inl ts ∧ ts.map kt = k := by
  obtain ⟨ts, e, m⟩ := h s 0 [] [] (by rw [List.append_nil]; rfl) (.inl rfl)
  refine ⟨ts, ?_, m⟩
  have hrem : isRem s = false := by
    unfold isRem
    cases s with
    | nil => rfl
    | cons c q =>
      have := hs c q rfl
      rw [List.dropWhile_cons, if_neg (by simpa using this.2)]
      exact decide_eq_false fun z => this.1 (Option.some.inj z)
  unfold scan
  rw [if_neg (by rw [hrem]; decide), e, scan_stop (Nat.le_trans (by omega) (skip_ge s _))]
  rfl
/-! ### expressions -/
/-- a name of the law's -/
def nms : List (List Nat) := [lit "stem", lit "a", lit "b_2", lit "abcdefghijkl"]
def sig (c : Nat) : KT := (kSig, [c])
def sepK (s : List KT) : List (List KT) → List KT
  | [] => []
  | [x] => x
  | x :: y :: r => x ++ (s ++ sepK s (y :: r))
abbrev Xp := PyData × List Nat × List KT
def isJoin (d : PyData) : Prop := ∃ ds, d = joinD ds
/-- expressions, their written forms and their tokens; r: the nesting, c: the calls inside of one another -/
def WF : Nat → Nat → Xp → Prop
  | 0, _, _ => False
  | r + 1, c, x => (∃ l, l.length ≤ 4 ∧ okS l = true ∧ x = (textD l, wr l, [(kStr, l)])) ∨ (∃ l, l ∈ nms ∧ x = (nameD l, l, [(kWrd, l)])) ∨
    (∃ (w : List Nat) (n c' : Nat) (xs : List Xp), c = c' + 1 ∧ arity w = some n ∧ xs.length = n ∧ (∀ y ∈ xs, WF r c' y) ∧ x = (callD w (xs.map (·.1)), w ++ ([40] ++ (TL.joinL [44, 32] (xs.map (·.2.1)) ++ [41])), (kWrd, w) :: sig 40 :: (sepK [sig 44] (xs.map (·.2.2)) ++ [sig 41]))) ∨
    (∃ xs : List Xp, 2 ≤ xs.length ∧ xs.length ≤ 3 ∧ (∀ y ∈ xs, WF r c y ∧ ¬ isJoin y.1) ∧ x = (joinD (xs.map (·.1)), TL.joinL [32, 43, 32] (xs.map (·.2.1)), sepK [sig 43] (xs.map (·.2.2))))
theorem fun_words : ∀ x ∈ funT, GW x.1 ∧ 1 ≤ x.2 ∧ x.2 ≤ 3 ∧ okS x.1 = true ∧ x.1.length ≤ 7 ∧ (∀ c q, x.1 = c :: q → c ≠ 35 ∧ c ≠ 32) := by
  have h : ∀ x ∈ funT, (x.1 ≠ [] ∧ ∀ c ∈ x.1, c ∉ WEN) ∧ 1 ≤ x.2 ∧ x.2 ≤ 3 ∧ okS x.1 = true ∧ x.1.length ≤ 7 ∧ x.1.head? ≠ some 35 ∧ x.1.head? ≠ some 32 := by decide +kernel
  intro x hx
  obtain ⟨a, b, c, d, e, f, g⟩ := h x hx
  exact ⟨a, b, c, d, e, fun c' q hq => ⟨fun z => f (by rw [hq, z]; rfl), fun z => g (by rw [hq, z]; rfl)⟩⟩
theorem nms_words : ∀ l ∈ nms, GW l ∧ okS l = true ∧ l.length ≤ 12 ∧ idOk l = true ∧ (∀ c q, l = c :: q → c ≠ 35 ∧ c ≠ 32) := by
  have h : ∀ l ∈ nms, (l ≠ [] ∧ ∀ c ∈ l, c ∉ WEN) ∧ okS l = true ∧ l.length ≤ 12 ∧ idOk l = true ∧ l.head? ≠ some 35 ∧ l.head? ≠ some 32 := by decide +kernel
  intro x hx
  obtain ⟨a, b, c, d, f, g⟩ := h x hx
  exact ⟨a, b, c, d, fun c' q hq => ⟨fun z => f (by rw [hq, z]; rfl), fun z => g (by rw [hq, z]; rfl)⟩⟩
theorem arity_fun {w : List Nat} {n : Nat} (h : arity w = some n) : (w, n) ∈ funT := by
  unfold arity at h
  obtain ⟨x, hx, rfl⟩ := Option.map_eq_some_iff.mp h
  have e := of_decide_eq_true (List.find?_some (p := fun x : List Nat × Nat => decide (x.1 = w)) hx)
  have := List.mem_of_find?_eq_some hx
  rw [← e]
  exact this
theorem sc_sep {s : List Nat} {k : List KT} {c : Nat} {q : List Nat} (hs : ScF s k) (hc : s = c :: q) (hw : c ∈ WEN) : ∀ xs : List Xp, xs ≠ [] → (∀ y ∈ xs, ScB y.2.1 y.2.2) → ScB (TL.joinL s (xs.map (·.2.1))) (sepK k (xs.map (·.2.2)))
  | [], h, _ => absurd rfl h
  | [x], _, h => h x List.mem_cons_self
  | x :: y :: r, _, h => by
    have ih := sc_sep hs hc hw (y :: r) (List.cons_ne_nil _ _) fun z hz => h z (List.mem_cons_of_mem _ hz)
    have z := sc_fb (sc_bf (h x List.mem_cons_self) hs hc hw) ih
    rw [List.append_assoc, List.append_assoc] at z
    exact z
theorem sep_comma : ScF [44, 32] [sig 44] := sc_ff (s1 := [44]) (s2 := [32]) (sc_sign sgn_q.2.2.2) sc_space
theorem sep_plus : ScF [32, 43, 32] [sig 43] := sc_ff (s1 := [32]) (s2 := [43, 32]) (k1 := []) sc_space (sc_ff (s1 := [43]) (s2 := [32]) (sc_sign sgn_q.2.2.1) sc_space)
theorem ar_pos {w : List Nat} {n : Nat} (h : arity w = some n) {α : Type} {xs : List α} (hx : xs.length = n) : xs ≠ [] := fun z => by
  have := (fun_words _ (arity_fun h)).2.1
  rw [z] at hx
  have hx : 0 = n := hx
  have : 1 ≤ n := this
  omega
theorem wf_sc : ∀ (r c : Nat) (x : Xp), WF r c x → ScB x.2.1 x.2.2
  | 0, _, _, h => h.elim
  | r + 1, c, x, h => by
    rcases h with ⟨l, _, _, rfl⟩ | ⟨l, hl, rfl⟩ | ⟨w, n, c', xs, _, ha, hn, hx, rfl⟩ | ⟨xs, h2, _, hx, rfl⟩
    · exact (sc_text l).b
    · exact sc_word (nms_words l hl).1
    · have hw := (fun_words _ (arity_fun ha)).1
      have a1 := sc_bf (sc_word hw) (sc_sign sgn_q.1) rfl wen_q.2.2.1
      have a2 := sc_fb a1 (sc_sep sep_comma rfl wen_q.2.2.2.2.2 xs (ar_pos ha hn) fun y hy => wf_sc r c' y (hx y hy))
      have a3 := sc_bf a2 (sc_sign sgn_q.2.1) rfl wen_q.2.2.2.1
      have z := a3.b
      rw [List.append_assoc, List.append_assoc, List.append_assoc, List.append_assoc] at z
      exact z
    · exact sc_sep sep_plus rfl wen_q.2.1 xs (fun z => by rw [z] at h2; exact absurd h2 (by decide)) fun y hy => wf_sc r c y (hx y hy).1
/-- its first sign, its first token -/
theorem wf_head : ∀ (r c : Nat) (x : Xp), WF r c x → (∃ a q, x.2.1 = a :: q ∧ a ≠ 35 ∧ a ≠ 32) ∧ ∃ h q, x.2.2 = h :: q ∧ h.1 ≠ kSig
  | 0, _, _, h => h.elim
  | r + 1, c, x, h => by
    have kn : kStr ≠ kSig ∧ kWrd ≠ kSig := by decide +kernel
    have hd : ∀ {t : List Nat}, GW t → (∀ c q, t = c :: q → c ≠ 35 ∧ c ≠ 32) → ∃ a q, t = a :: q ∧ a ≠ 35 ∧ a ≠ 32 := fun {t} g h => by
      cases t with
      | nil => exact absurd rfl g.1
      | cons a q => exact ⟨a, q, rfl, h a q rfl⟩
    rcases h with ⟨l, _, _, rfl⟩ | ⟨l, hl, rfl⟩ | ⟨w, n, c', xs, _, ha, hn, hx, rfl⟩ | ⟨xs, h2, _, hx, rfl⟩
    · exact ⟨⟨34, _, rfl, by decide, by decide⟩, _, _, rfl, kn.1⟩
    · exact ⟨hd (nms_words l hl).1 (nms_words l hl).2.2.2.2, _, _, rfl, kn.2⟩
    · have g := fun_words _ (arity_fun ha)
      obtain ⟨a, q, e, h3⟩ := hd g.1 g.2.2.2.2.2
      exact ⟨⟨a, q ++ ([40] ++ (TL.joinL [44, 32] (xs.map (·.2.1)) ++ [41])), by show w ++ _ = _; rw [show w = a :: q from e]; rfl, h3⟩, _, _, rfl, kn.2⟩
    · match xs, h2, hx with
      | y :: z :: xs, _, hx =>
        obtain ⟨⟨a, q, e1, h3⟩, h, q2, e2, h4⟩ := wf_head r c y (hx y List.mem_cons_self).1
        exact ⟨⟨a, q ++ ([32, 43, 32] ++ TL.joinL [32, 43, 32] ((z :: xs).map (·.2.1))), by show y.2.1 ++ _ = _; rw [e1]; rfl, h3⟩, h, q2 ++ ([sig 43] ++ sepK [sig 43] ((z :: xs).map (·.2.2))), by show y.2.2 ++ _ = _; rw [e2]; rfl, h4⟩
def LB : Nat → Nat
  | 0 => 0
  | r + 1 => 3 * LB r + 13
theorem join_le {s : List Nat} {n : Nat} : ∀ {ls : List (List Nat)}, (∀ l ∈ ls, l.length ≤ n) → (TL.joinL s ls).length ≤ ls.length * n + (ls.length - 1) * s.length
  | [], _ => Nat.zero_le _
  | [x], h => by
    show x.length ≤ 1 * n + 0 * s.length
    have := h x List.mem_cons_self
    omega
  | x :: y :: r, h => by
    have ih := join_le (s := s) (ls := y :: r) fun l hl => h l (List.mem_cons_of_mem _ hl)
    have := h x List.mem_cons_self
    show (x ++ (s ++ TL.joinL s (y :: r))).length ≤ (r.length + 1 + 1) * n + (r.length + 1) * s.length
    rw [List.length_append, List.length_append]
    rw [List.length_cons] at ih
    have ih : (TL.joinL s (y :: r)).length ≤ (r.length + 1) * n + r.length * s.length := ih
    rw [Nat.succ_mul (r.length + 1) n, Nat.succ_mul r.length s.length]
    omega
theorem mul_le3 {a b n : Nat} (h : a ≤ 3) (hb : b ≤ n) : a * b ≤ 3 * n := Nat.mul_le_mul h hb
theorem wf_len : ∀ (r c : Nat) (x : Xp), WF r c x → x.2.1.length ≤ LB r
  | 0, _, _, h => h.elim
  | r + 1, c, x, h => by
    show x.2.1.length ≤ 3 * LB r + 13
    rcases h with ⟨l, hl, _, rfl⟩ | ⟨l, hl, rfl⟩ | ⟨w, n, c', xs, _, ha, hn, hx, rfl⟩ | ⟨xs, h2, h3, hx, rfl⟩
    · have := wr_len l
      have := fm_len l
      show (wr l).length ≤ _
      omega
    · have := (nms_words l hl).2.2.1
      show l.length ≤ _
      omega
    · have g := fun_words _ (arity_fun ha)
      have g3 : n ≤ 3 := g.2.2.1
      have g7 : w.length ≤ 7 := g.2.2.2.2.1
      have z := join_le (s := [44, 32]) (ls := xs.map fun y : Xp => y.2.1) (n := LB r) fun l hl => by
        obtain ⟨y, hy, rfl⟩ := List.mem_map.1 hl
        exact wf_len r c' y (hx y hy)
      rw [List.length_map, hn] at z
      have m1 := mul_le3 g3 (Nat.le_refl (LB r))
      have m2 : (n - 1) * [44, 32].length ≤ 2 * 2 := Nat.mul_le_mul (by omega) (Nat.le_refl 2)
      show (w ++ ([40] ++ (TL.joinL [44, 32] (xs.map fun y : Xp => y.2.1) ++ [41]))).length ≤ _
      simp only [List.length_append, List.length_singleton]
      omega
    · have z := join_le (s := [32, 43, 32]) (ls := xs.map fun y : Xp => y.2.1) (n := LB r) fun l hl => by
        obtain ⟨y, hy, rfl⟩ := List.mem_map.1 hl
        exact wf_len r c y (hx y hy).1
      rw [List.length_map] at z
      have m1 := mul_le3 h3 (Nat.le_refl (LB r))
      have m2 : (xs.length - 1) * [32, 43, 32].length ≤ 2 * 3 := Nat.mul_le_mul (by omega) (Nat.le_refl 3)
      show (TL.joinL [32, 43, 32] (xs.map fun y : Xp => y.2.1)).length ≤ _
      omega
theorem WF.up : ∀ (r c : Nat) (x : Xp), WF r c x → WF (r + 1) c x
  | 0, _, _, h => h.elim
  | r + 1, c, x, h => by
    rcases h with h | h | ⟨w, n, c', xs, h1, ha, hn, hx, e⟩ | ⟨xs, h2, h3, hx, e⟩
    · exact .inl h
    · exact .inr (.inl h)
    · exact .inr (.inr (.inl ⟨w, n, c', xs, h1, ha, hn, fun y hy => WF.up r c' y (hx y hy), e⟩))
    · exact .inr (.inr (.inr ⟨xs, h2, h3, fun y hy => ⟨WF.up r c y (hx y hy).1, (hx y hy).2⟩, e⟩))
theorem WF.ups {r c : Nat} {x : Xp} (h : WF r c x) : ∀ n, WF (r + n) c x
  | 0 => h
  | n + 1 => WF.up _ _ _ (WF.ups h n)
/-! ### reading the tokens -/
def sgnK : List KT → List Nat
  | [] => []
  | x :: _ => if x.1 = kSig then x.2 else []
theorem sgn_sig (c : Nat) (q : List KT) : sgnK (sig c :: q) = [c] := by
  show (if kSig = kSig then [c] else []) = [c]
  rw [if_pos rfl]
theorem tok_at {ts : List Tok3} {a : Nat} {h : KT} {q : List KT} (e : (ts.map kt).drop a = h :: q) : ∃ t, ts[a]? = some t ∧ kt t = h := by
  have z : ((ts.map kt).drop a)[0]? = some h := by rw [e]; rfl
  rw [List.getElem?_drop, List.getElem?_map] at z
  exact Option.map_eq_some_iff.mp z
theorem sgn_drop {ts : List Tok3} {a : Nat} : sgn ts a = sgnK ((ts.map kt).drop a) := by
  unfold sgn
  cases e : (ts.map kt).drop a with
  | nil =>
    have z := List.drop_eq_nil_iff.mp e
    rw [List.length_map] at z
    rw [List.getElem?_eq_none z]
    rfl
  | cons h q =>
    obtain ⟨t, ht, rfl⟩ := tok_at e
    rw [ht]
    rfl
theorem drop_len {α : Type} {l p q : List α} {a : Nat} (h : l.drop a = p ++ q) : l.drop (a + p.length) = q := by rw [← List.drop_drop, h, List.drop_left]
section
variable {ts : List Tok3} {ks : List (List Nat)}
theorem args_read {expr : Nat → Res} {w : List Nat} {post : List KT} : ∀ (xs : List Xp) (acc : List PyData) (b : Nat), xs ≠ [] →
    (∀ y ∈ xs, (∃ h q, y.2.2 = h :: q ∧ h.1 ≠ kSig) ∧ ∀ a p2, (ts.map kt).drop a = y.2.2 ++ p2 → sgnK p2 ≠ [43] → sgnK p2 ≠ [40] → expr a = some (.inl (y.1, a + y.2.2.length))) →
    (ts.map kt).drop (b + 1) = sepK [sig 44] (xs.map (·.2.2)) ++ (sig 41 :: post) →
    argsG expr ts w xs.length acc b = some (.inl (callD w (acc ++ xs.map (·.1)), b + 1 + (sepK [sig 44] (xs.map (·.2.2))).length + 1))
  | [], _, _, h, _, _ => absurd rfl h
  | [y], acc, b, _, hy, hd => by
    obtain ⟨⟨h, q, e, hk⟩, he⟩ := hy y List.mem_cons_self
    have hd : (ts.map kt).drop (b + 1) = y.2.2 ++ (sig 41 :: post) := hd
    have hs : sgn ts (b + 1) ≠ [41] := by
      rw [sgn_drop, hd, e]
      show (if h.1 = kSig then h.2 else []) ≠ _
      rw [if_neg hk]
      exact fun z => nomatch z
    have h1 := he (b + 1) _ hd (by show (if kSig = kSig then [41] else []) ≠ _; rw [if_pos rfl]; decide) (by show (if kSig = kSig then [41] else []) ≠ _; rw [if_pos rfl]; decide)
    have d2 := drop_len hd
    obtain ⟨t, ht, _⟩ := tok_at d2
    have s2 : sgn ts (b + 1 + y.2.2.length) = [41] := by
      rw [sgn_drop, d2, sgn_sig]
    show argsG expr ts w (0 + 1) acc b = _
    unfold argsG
    rw [if_neg hs, h1]
    dsimp only
    have hc : chkB ts (b + 1 + y.2.2.length) 0 = none := by
      unfold chkB
      rw [ht]
      dsimp only
      rw [s2, if_neg (by decide), if_neg (by decide), if_neg (by decide)]
    rw [hc]
    dsimp only
    unfold argsG
    rfl
  | y :: z :: r, acc, b, _, hy, hd => by
    obtain ⟨⟨h, q, e, hk⟩, he⟩ := hy y List.mem_cons_self
    have hd : (ts.map kt).drop (b + 1) = y.2.2 ++ (sig 44 :: (sepK [sig 44] ((z :: r).map (·.2.2)) ++ (sig 41 :: post))) := by
      rw [hd]
      show (y.2.2 ++ ([sig 44] ++ sepK [sig 44] ((z :: r).map (·.2.2)))) ++ _ = _
      rw [List.append_assoc, List.append_assoc]
      rfl
    have hs : sgn ts (b + 1) ≠ [41] := by
      rw [sgn_drop, hd, e]
      show (if h.1 = kSig then h.2 else []) ≠ _
      rw [if_neg hk]
      exact fun z => nomatch z
    have h1 := he (b + 1) _ hd (by show (if kSig = kSig then [44] else []) ≠ _; rw [if_pos rfl]; decide) (by show (if kSig = kSig then [44] else []) ≠ _; rw [if_pos rfl]; decide)
    have d2 := drop_len hd
    obtain ⟨t, ht, _⟩ := tok_at d2
    have s2 : sgn ts (b + 1 + y.2.2.length) = [44] := by
      rw [sgn_drop, d2, sgn_sig]
    have d3 : (ts.map kt).drop (b + 1 + y.2.2.length + 1) = sepK [sig 44] ((z :: r).map (·.2.2)) ++ (sig 41 :: post) := by rw [← List.drop_drop, d2]; rfl
    have ih := args_read (w := w) (z :: r) (acc ++ [y.1]) (b + 1 + y.2.2.length) (List.cons_ne_nil _ _) (fun v hv => hy v (List.mem_cons_of_mem _ hv)) d3
    show argsG expr ts w ((z :: r).length + 1) acc b = _
    unfold argsG
    rw [if_neg hs, h1]
    dsimp only
    have hc : chkB ts (b + 1 + y.2.2.length) (z :: r).length = none := by
      unfold chkB
      rw [ht]
      dsimp only
      rw [s2, if_neg (by decide), if_neg (fun q => absurd q.1 (by decide)), if_neg (fun q => absurd q.2 (by show ¬ r.length + 1 = 0; omega))]
    rw [hc]
    dsimp only
    rw [ih, List.append_assoc]
    refine congrArg (fun n => some (Sum.inl (callD w (acc ++ ([y.1] ++ (z :: r).map (·.1))), n))) ?_
    show _ = b + 1 + (y.2.2 ++ ([sig 44] ++ sepK [sig 44] ((z :: r).map (·.2.2)))).length + 1
    rw [List.length_append, List.length_append, List.length_singleton]
    omega
theorem more_read {term : Nat → Res} {post : List KT} (hp : sgnK post ≠ [43] ∧ sgnK post ≠ [40]) : ∀ (xs : List Xp) (n : Nat) (acc : List PyData) (d0 : PyData) (b : Nat), 1 ≤ acc.length → acc.length + xs.length < 1000 → xs.length < n → 2 ≤ acc.length + xs.length →
    (∀ y ∈ xs, ∀ a p2, (ts.map kt).drop a = y.2.2 ++ p2 → sgnK p2 ≠ [40] → term a = some (.inl (y.1, a + y.2.2.length))) →
    (ts.map kt).drop b = (xs.map fun y => sig 43 :: y.2.2).flatten ++ post →
    moreG term ts n acc d0 b = some (.inl (joinD (acc ++ xs.map (·.1)), b + ((xs.map fun y => sig 43 :: y.2.2).flatten).length))
  | [], n + 1, acc, d0, b, h1, h2, h3, h4, hy, hd => by
    have hd : (ts.map kt).drop b = post := hd
    unfold moreG
    rw [if_neg (by rw [sgn_drop, hd]; exact hp.1)]
    have h4 : 2 ≤ acc.length := h4
    rw [if_neg (by omega)]
    show some (Sum.inl (joinD acc, b)) = some (Sum.inl (joinD (acc ++ []), b + 0))
    rw [List.append_nil]
    rfl
  | y :: r, n + 1, acc, d0, b, h1, h2, h3, h4, hy, hd => by
    have h2 : acc.length + (r.length + 1) < 1000 := h2
    have h3 : r.length + 1 < n + 1 := h3
    have h4 : 2 ≤ acc.length + (r.length + 1) := h4
    have hd : (ts.map kt).drop b = sig 43 :: (y.2.2 ++ ((r.map fun y => sig 43 :: y.2.2).flatten ++ post)) := by
      rw [hd]
      show (sig 43 :: y.2.2 ++ (r.map fun y => sig 43 :: y.2.2).flatten) ++ post = _
      rw [List.append_assoc]
      rfl
    have d1 : (ts.map kt).drop (b + 1) = y.2.2 ++ ((r.map fun y => sig 43 :: y.2.2).flatten ++ post) := by rw [← List.drop_drop, hd]; rfl
    have hs : sgnK ((r.map fun y => sig 43 :: y.2.2).flatten ++ post) ≠ [40] := by
      cases r with
      | nil => exact hp.2
      | cons z q =>
        show (if kSig = kSig then [43] else []) ≠ _
        rw [if_pos rfl]
        decide
    have t1 := hy y List.mem_cons_self (b + 1) _ d1 hs
    have ih := more_read hp r n (acc ++ [y.1]) y.1 (b + 1 + y.2.2.length) (by rw [List.length_append]; exact Nat.le_add_right_of_le h1) (by rw [List.length_append, List.length_singleton]; omega) (by omega) (by rw [List.length_append, List.length_singleton]; omega) (fun v hv => hy v (List.mem_cons_of_mem _ hv)) (drop_len d1)
    unfold moreG
    rw [if_pos (by rw [sgn_drop, hd, sgn_sig]), t1]
    dsimp only
    rw [if_pos (by omega), ih, List.append_assoc]
    refine congrArg (fun n => some (Sum.inl (joinD (acc ++ ([y.1] ++ r.map (·.1))), n))) ?_
    show _ = b + (sig 43 :: y.2.2 ++ (r.map fun y => sig 43 :: y.2.2).flatten).length
    rw [List.length_append, List.length_cons]
    omega
theorem sep_flat : ∀ (y : Xp) (r : List Xp), sepK [sig 43] ((y :: r).map (·.2.2)) = y.2.2 ++ (r.map fun y => sig 43 :: y.2.2).flatten
  | y, [] => (List.append_nil _).symm
  | y, z :: r => by
    show y.2.2 ++ ([sig 43] ++ sepK [sig 43] ((z :: r).map (·.2.2))) = _
    rw [sep_flat z r]
    rfl
theorem not_join (l w : List Nat) (ds : List PyData) : ¬ isJoin (textD l) ∧ ¬ isJoin (nameD l) ∧ ¬ isJoin (callD w ds) := by
  have h : lit "text" ≠ lit "join" ∧ lit "name" ≠ lit "join" ∧ lit "call" ≠ lit "join" := by decide +kernel
  refine ⟨fun ⟨d, z⟩ => ?_, fun ⟨d, z⟩ => ?_, fun ⟨d, z⟩ => ?_⟩
  · injection z with z; injection z with z _; injection z with z; exact h.1 (S_inj z)
  · injection z with z; injection z with z _; injection z with z; exact h.2.1 (S_inj z)
  · injection z with z; injection z with z _; injection z with z; exact h.2.2 (S_inj z)
theorem read_wf (hks : ∀ l ∈ nms, l ∈ ks) : ∀ r, (∀ c x, WF r c x → ¬ isJoin x.1 → ∀ n dp a post, c + dp ≤ 6 → c ≤ n → (ts.map kt).drop a = x.2.2 ++ post → sgnK post ≠ [40] → termG (callG (exprN ts ks n (dp + 1)) ts dp) ts ks a = some (.inl (x.1, a + x.2.2.length))) ∧
    ∀ c x, WF r c x → ∀ n dp a post, c + dp ≤ 6 → c ≤ n → (ts.map kt).drop a = x.2.2 ++ post → sgnK post ≠ [43] → sgnK post ≠ [40] → exprN ts ks (n + 1) dp a = some (.inl (x.1, a + x.2.2.length))
  | 0 => ⟨fun _ _ h => h.elim, fun _ _ h => h.elim⟩
  | r + 1 => by
    obtain ⟨ihT, ihE⟩ := read_wf hks r
    have kn : kStr ≠ kSig ∧ kWrd ≠ kSig ∧ kWrd ≠ kStr := by decide +kernel
    have T : ∀ c x, WF (r + 1) c x → ¬ isJoin x.1 → ∀ n dp a post, c + dp ≤ 6 → c ≤ n → (ts.map kt).drop a = x.2.2 ++ post → sgnK post ≠ [40] → termG (callG (exprN ts ks n (dp + 1)) ts dp) ts ks a = some (.inl (x.1, a + x.2.2.length)) := by
      intro c x h hj n dp a post hc hn hd hs
      rcases h with ⟨l, _, _, rfl⟩ | ⟨l, hl, rfl⟩ | ⟨w, m, c', xs, hcc, ha, hm, hx, rfl⟩ | ⟨xs, h2, h3, hx, rfl⟩
      · obtain ⟨t, ht, e⟩ := tok_at (h := (kStr, l)) (q := post) hd
        have e1 : t.1 = kStr := congrArg (·.1) e
        have e2 : t.2.1 = l := congrArg (·.2) e
        unfold termG
        rw [ht]
        dsimp only
        rw [if_pos e1, e2]
        rfl
      · have g := nms_words l hl
        obtain ⟨t, ht, e⟩ := tok_at (h := (kWrd, l)) (q := post) hd
        have e1 : t.1 = kWrd := congrArg (·.1) e
        have e2 : t.2.1 = l := congrArg (·.2) e
        have d1 : (ts.map kt).drop (a + 1) = post := by rw [← List.drop_drop, hd]; rfl
        unfold termG
        rw [ht]
        dsimp only
        rw [if_neg (by rw [e1]; exact kn.2.2), if_neg (by rw [e1]; exact kn.2.1), if_neg (by rw [sgn_drop, d1]; exact hs), e2, if_neg (by rw [g.2.2.2.1]; decide), if_neg (fun z => z (hks l hl))]
        rfl
      · have hd : (ts.map kt).drop a = (kWrd, w) :: (sig 40 :: (sepK [sig 44] (xs.map (·.2.2)) ++ (sig 41 :: post))) := by
          rw [hd]
          show (kWrd, w) :: sig 40 :: ((sepK [sig 44] (xs.map (·.2.2)) ++ [sig 41]) ++ post) = _
          rw [List.append_assoc]
          rfl
        obtain ⟨t, ht, e⟩ := tok_at hd
        have e1 : t.1 = kWrd := congrArg (·.1) e
        have e2 : t.2.1 = w := congrArg (·.2) e
        have d1 : (ts.map kt).drop (a + 1) = sig 40 :: (sepK [sig 44] (xs.map (·.2.2)) ++ (sig 41 :: post)) := by rw [← List.drop_drop, hd]; rfl
        have d2 : (ts.map kt).drop (a + 1 + 1) = sepK [sig 44] (xs.map (·.2.2)) ++ (sig 41 :: post) := by rw [← List.drop_drop, d1]; rfl
        have z := args_read (w := w) (expr := exprN ts ks n (dp + 1)) xs [] (a + 1) (ar_pos ha hm) (fun y hy => ⟨(wf_head r c' y (hx y hy)).2, fun a2 p2 h1 h2 h3 => by
          obtain ⟨n', rfl⟩ : ∃ n', n = n' + 1 := ⟨n - 1, by omega⟩
          exact ihE c' y (hx y hy) n' (dp + 1) a2 p2 (by omega) (by omega) h1 h2 h3⟩) d2
        rw [hm] at z
        unfold termG
        rw [ht]
        dsimp only
        rw [if_neg (by rw [e1]; exact kn.2.2), if_neg (by rw [e1]; exact kn.2.1), if_pos (by rw [sgn_drop, d1, sgn_sig])]
        unfold callG
        rw [ht]
        dsimp only
        rw [if_neg (by omega), e2, ha]
        dsimp only
        rw [z]
        refine congrArg (fun n => some (Sum.inl (callD w ([] ++ xs.map (·.1)), n))) ?_
        show _ = a + ((sepK [sig 44] (xs.map (·.2.2)) ++ [sig 41]).length + 1 + 1)
        rw [List.length_append, List.length_singleton]
        omega
      · exact absurd ⟨_, rfl⟩ hj
    refine ⟨T, fun c x h n dp a post hc hn hd hs1 hs2 => ?_⟩
    by_cases hj : isJoin x.1
    · rcases h with ⟨l, _, _, rfl⟩ | ⟨l, hl, rfl⟩ | ⟨w, m, c', xs, hcc, ha, hm, hx, rfl⟩ | ⟨xs, h2, h3, hx, rfl⟩
      · exact absurd hj (not_join l [] []).1
      · exact absurd hj (not_join l [] []).2.1
      · exact absurd hj (not_join [] w _).2.2
      · match xs, h2, h3, hx, hd with
        | y :: v :: xs, h2, h3, hx, hd =>
          have hd : (ts.map kt).drop a = y.2.2 ++ (((v :: xs).map fun y => sig 43 :: y.2.2).flatten ++ post) := by
            rw [hd]
            show sepK [sig 43] ((y :: v :: xs).map (·.2.2)) ++ post = _
            rw [sep_flat, List.append_assoc]
          have t1 := ihT c y (hx y List.mem_cons_self).1 (hx y List.mem_cons_self).2 n dp a _ hc hn hd (by
            show (if kSig = kSig then [43] else []) ≠ _
            rw [if_pos rfl]
            decide)
          have hl : (y :: v :: xs).length ≤ ts.length + 1 := by
            have z := congrArg List.length hd
            obtain ⟨_, hh, qq, eh, _⟩ := wf_head r c y (hx y List.mem_cons_self).1
            obtain ⟨_, hh2, qq2, eh2, _⟩ := wf_head r c v (hx v (List.mem_cons_of_mem _ List.mem_cons_self)).1
            rw [List.length_drop, List.length_map, List.length_append, eh] at z
            have z2 : (((v :: xs).map fun y => sig 43 :: y.2.2).flatten ++ post).length ≥ 2 := by
              show (sig 43 :: v.2.2 ++ _ ++ post).length ≥ 2
              rw [eh2]
              simp only [List.length_append, List.length_cons]
              omega
            have h3 : xs.length + 1 + 1 ≤ 3 := h3
            show xs.length + 1 + 1 ≤ ts.length + 1
            rw [List.length_cons] at z
            omega
          have h3 : xs.length + 1 + 1 ≤ 3 := h3
          have hl : xs.length + 1 + 1 ≤ ts.length + 1 := hl
          have m1 := more_read (ts := ts) (term := termG (callG (exprN ts ks n (dp + 1)) ts dp) ts ks) ⟨hs1, hs2⟩ (v :: xs) (ts.length + 1) [y.1] y.1 (a + y.2.2.length) (Nat.le_refl 1) (by show 1 + (xs.length + 1) < 1000; omega) (by show xs.length + 1 < _; omega) (by show 2 ≤ 1 + (xs.length + 1); omega) (fun u hu a2 p2 h1 h2 => ihT c u (hx u (List.mem_cons_of_mem _ hu)).1 (hx u (List.mem_cons_of_mem _ hu)).2 n dp a2 p2 hc hn h1 h2) (drop_len hd)
          unfold exprN
          rw [t1]
          dsimp only
          rw [m1]
          refine congrArg (fun n => some (Sum.inl (joinD ([y.1] ++ (v :: xs).map (·.1)), n))) ?_
          show _ = a + (sepK [sig 43] ((y :: v :: xs).map (·.2.2))).length
          rw [sep_flat, List.length_append]
          omega
    · have t1 := T c x h hj n dp a post hc hn hd hs2
      unfold exprN
      rw [t1]
      dsimp only
      unfold moreG
      rw [if_neg (by rw [sgn_drop, drop_len hd]; exact hs1), if_pos (by rfl)]
end
end

--SPLIT
section
variable {P : Program} {w : World} {K : PySem.W.Frag} {mg : Str → Option Value} {base : Heap}
/-! ### writing -/
theorem wf_noL : ∀ (r c : Nat) (x : Xp), WF r c x → noL x.1 = true
  | 0, _, _, h => h.elim
  | r + 1, c, x, h => by
    have ih := wf_noL r
    have all : ∀ (c : Nat) (xs : List Xp), (∀ y ∈ xs, WF r c y) → noLA (xs.map (·.1)) = true := fun c xs => by
      induction xs with
      | nil => intro _; show noLA [] = true; unfold noLA; rfl
      | cons y r2 k =>
        intro h
        show noLA (y.1 :: r2.map (·.1)) = true
        unfold noLA
        rw [ih c y (h y List.mem_cons_self), k fun z hz => h z (List.mem_cons_of_mem _ hz)]
        rfl
    rcases h with ⟨l, _, _, rfl⟩ | ⟨l, hl, rfl⟩ | ⟨w, n, c', xs, _, ha, hn, hx, rfl⟩ | ⟨xs, h2, h3, hx, rfl⟩
    · exact noL_tup (noLA2 (noL_str _) (noL_str _))
    · exact noL_tup (noLA2 (noL_str _) (noL_str _))
    · exact noL_call (all c' xs hx)
    · exact noL_join (all c xs fun y hy => (hx y hy).1)
theorem words_ne : lit "name" ≠ lit "text" ∧ lit "call" ≠ lit "text" ∧ lit "join" ≠ lit "text" ∧ lit "call" ≠ lit "name" ∧ lit "join" ≠ lit "name" ∧ lit "join" ≠ lit "call" := by decide +kernel
/-- the list of what is written of the parts -/
theorem dta_split {H : Hp} : ∀ {vs : List V} {xs : List Xp}, DtA H vs (xs.map (·.1)) → vs.length = xs.length
  | vs, xs, h => by have := h.len; rw [List.length_map] at this; exact this
theorem LB8 : LB 8 = 42640 := by decide
theorem LB_le {r : Nat} (h : r ≤ 8) : LB r ≤ 42640 := by
  have : ∀ r < 9, LB r ≤ 42640 := by decide
  exact this r (by omega)
theorem dta_at' {H : Hp} : ∀ {vs : List V} {ds : List PyData}, DtA H vs ds → ∀ (i : Nat) (v : V), vs[i]? = some v → ∃ d, ds[i]? = some d ∧ Dt H v d
  | _, _, .nil, i, v, h => by simp at h
  | _, _, .cons h r, 0, v, e => by
    cases Option.some.inj e
    exact ⟨_, rfl, h⟩
  | _, _, .cons h r, i + 1, v, e => dta_at' r i v (by simpa using e)
theorem el_parts {te : TE} {σ : L2.St} {H : Hp} {a j : Addr} {vs : List V} {vv : List Nat} {xs : List Xp} {tl : TE} (h : Ev tl σ H (.ref a)) (ha : H a = some (.tup vs)) (hD : DtA H vs (xs.map (·.1))) (hz : xs.length ≤ 1000) (hw : ∀ x, wipe ((wipe σ vv).set j (some x)) vv = wipe σ vv)
    (he : ∀ y ∈ xs, ∀ v H1, Ex H H1 → Dt H1 v y.1 → Ev te ((wipe σ vv).set j (some v)) H1 (.str (S y.2.1))) : EvL (tLc (iTup K tl) (gName j) tYes te vv) σ H ((xs.map (·.2.1)).map fun l => V.str (S l)) := by
  have hl := dta_split hD
  have z := el_lcT (K := K) (te := te) (t := tYes) (fun _ => true) (fun i => (xs[i]?.map fun y : Xp => V.str (S y.2.1)).getD .non) h ha (by omega) hw (fun _ _ _ _ _ => et_yes) (fun i x H1 e1 hi _ => by
    obtain ⟨d, hd, hx⟩ := dta_at' hD i x hi
    rw [List.getElem?_map] at hd
    obtain ⟨y, hy, rfl⟩ := Option.map_eq_some_iff.mp hd
    rw [hy]
    exact he y (List.mem_of_getElem? hy) x H1 e1 (hx.mono e1))
  rw [hl, given_all] at z
  rw [List.map_map]
  exact z
theorem tup2_inv {H : Hp} {v : V} {a b : PyData} (h : Dt H v (.tuple [a, b])) : ∃ q v1 v2, v = .ref q ∧ H q = some (.tup [v1, v2]) ∧ Dt H v1 a ∧ Dt H v2 b := by
  obtain ⟨q, xs, rfl, hq, hx⟩ := h.tup_inv
  cases hx with
  | cons h1 hx => cases hx with
    | cons h2 hx =>
      cases hx
      exact ⟨q, _, _, rfl, hq, h1, h2⟩
theorem tup3_inv {H : Hp} {v : V} {a b c : PyData} (h : Dt H v (.tuple [a, b, c])) : ∃ q v1 v2 v3, v = .ref q ∧ H q = some (.tup [v1, v2, v3]) ∧ Dt H v1 a ∧ Dt H v2 b ∧ Dt H v3 c := by
  obtain ⟨q, xs, rfl, hq, hx⟩ := h.tup_inv
  cases hx with
  | cons h1 hx => cases hx with
    | cons h2 hx => cases hx with
      | cons h3 hx =>
        cases hx
        exact ⟨q, _, _, _, rfl, hq, h1, h2, h3⟩
theorem join_sum {s : List Nat} {ls : List (List Nat)} {n : Nat} (h : ∀ l ∈ ls, l.length ≤ n) (h3 : ls.length ≤ 3) (hn : n ≤ 42640) (hs : s.length ≤ 3) : (ls.map (·.length)).sum + ls.length * s.length ≤ 16777216 := by
  have z : (ls.map (·.length)).sum ≤ ls.length * n := by
    clear h3
    induction ls with
    | nil => exact Nat.zero_le _
    | cons a r ih =>
      rw [List.map_cons, List.sum_cons, List.length_cons, Nat.succ_mul]
      have := h a List.mem_cons_self
      have := ih fun l hl => h l (List.mem_cons_of_mem _ hl)
      omega
  have m1 : ls.length * n ≤ 3 * 42640 := Nat.mul_le_mul h3 hn
  have m2 : ls.length * s.length ≤ 3 * 3 := Nat.mul_le_mul h3 hs
  omega
def sp_format_expression (_ : PySem.W.Frag) (n : Nat) : Sp := fun vs H Q _ => ∃ (v : V) (c : Nat) (x : Xp), vs = [v] ∧ WF n c x ∧ n ≤ 8 ∧ Dt H v x.1 ∧ Rt H (.str (S x.2.1)) Q
theorem ok_format_expression0 {f : Addr} {fd : FuncData} {lv : Nat} (F : Fun K "format_expression" "format_expression" s_format_expression f fd) : FnOk P w K mg base CX0 (lv + 1) f fd ["expression"] (sp_format_expression K 0) := by
  refine F.ok sc_format_expression (fun vs H Q E h => ?_) (fun cdv A outer s H vs Q E hr h => ?_)
  · obtain ⟨v, c, x, rfl, _⟩ := h
    rfl
  · obtain ⟨v, c, x, rfl, h, _⟩ := h
    exact h.elim
theorem fmt_ev {σ : L2.St} {H : Hp} {ta : TA} {E : XK} {l : List Nat} (h : EvA ta σ H [.str (S l)]) (hl : l.length ≤ 9000) : Ev (tCall (sp_format_string K) [] E ta) σ H (.str (S (wr l))) := ev_call (dvs := []) h fun H1 e Q q E => ⟨l, rfl, hl, q⟩
theorem ix_of {σ : L2.St} {H : Hp} {j q : Addr} {xs : List V} {v : V} {i : Nat} {k : Int} (hj : σ[j]? = some (some (.ref q))) (h : H q = some (.tup xs)) (hk : k = (i : Int)) (hv : xs[i]? = some v) : Ev (tOp (rIxT K) (tVar j) (tC (.int k))) σ H v := by
  subst hk
  exact ev_op (ev_var hj) ev_c (rv_ixT (st_of h) (atI_nat hv))
theorem ok_format_expression {f : Addr} {fd : FuncData} {lv n : Nat} (F : Fun K "format_expression" "format_expression" s_format_expression f fd) (T : Tx mg) (G : Gx K mg) (C_format_string : Kn.Cl P w K mg base 1 "format_string" (sp_format_string K)) (C_format_expression : Kn.Cl P w K mg base (lv + 1) "format_expression" (sp_format_expression K n)) : FnOk P w K mg base CX0 (lv + 2) f fd ["expression"] (sp_format_expression K (n + 1)) := by
  refine F.ok sc_format_expression (fun vs H Q E h => ?_) (fun cdv A outer s H vs Q E hr h => ?_)
  · obtain ⟨v, c, x, rfl, _⟩ := h
    rfl
  · obtain ⟨v, c, x, rfl, hW, hn8, hD, q⟩ := h
    refine ⟨_, (pss_cons (ps_set (i := 1) sc_format_expression.nd rfl (Or.inl rfl) (pe_ix ix_tup (pv 0) pe_int (fun _ _ => rfl)))
      (pss_cons (ps_if (pt_cmpR op_eq (pv 1) pe_str (nomark _)) (pss_one (ps_ret (Kn.pe_cl C_format_string hr (by omega) (by rfl) (pa_cons (pe_ix ix_tup (pv 0) pe_int (fun _ _ => rfl)) pa_nil)))) pss_nil)
      (pss_cons (ps_if (pt_cmpR op_eq (pv 1) pe_str (nomark _)) (pss_one (ps_ret (pe_ix ix_tup (pv 0) pe_int (fun _ _ => rfl)))) pss_nil)
      (pss_cons (ps_if (pt_cmpR op_eq (pv 1) pe_str (nomark _)) (pss_cons (ps_set (i := 2) sc_format_expression.nd rfl (Or.inl rfl) (Kn.pe_joinN (pe_join pe_str (pe_lc (own := [("argument", 3)]) rfl sc_format_expression.nd (pi_tup (pe_ix ix_tup (pv 0) pe_int (fun _ _ => rfl))) (blkOk_by (own := [("argument", 3)]) (N := N_format_expression) (sc := defScope s_format_expression) (by decide +kernel)) (fun _ _ _ _ _ => pg_name (i := 3) sc_format_expression.nd rfl (Or.inl rfl)) (fun _ _ _ _ _ => pts_nil) (fun _ _ _ _ _ => (Kn.pe_cl C_format_expression hr (by omega) (by rfl) (pa_cons (pv 3) pa_nil)))))))
      (pss_one (ps_ret (pe_joined (.cons (pe_fmt (pe_ix ix_tup (pv 0) pe_int (fun _ _ => rfl))) (.cons pe_str (.cons (pe_fmt (pv 2)) (.cons pe_str .nil)))))))) pss_nil)
      (pss_one (ps_ret (Kn.pe_joinN (pe_join pe_str (pe_lc (own := [("term", 4)]) rfl sc_format_expression.nd (pi_tup (pe_ix ix_tup (pv 0) pe_int (fun _ _ => rfl))) (blkOk_by (own := [("term", 4)]) (N := N_format_expression) (sc := defScope s_format_expression) (by decide +kernel)) (fun _ _ _ _ _ => pg_name (i := 4) sc_format_expression.nd rfl (Or.inl rfl)) (fun _ _ _ _ _ => pts_nil) (fun _ _ _ _ _ => (Kn.pe_cl C_format_expression hr (by omega) (by rfl) (pa_cons (pv 4) pa_nil)))))))))))), ?_⟩
    have wn := words_ne
    have hlb := LB_le (r := n) (by omega)
    have hlen := wf_len _ _ _ hW
    have hlb1 := LB_le hn8
    rcases hW with ⟨l, hl, _, rfl⟩ | ⟨l, hl, rfl⟩ | ⟨w, m, c', xs, _, ha, hm, hx, rfl⟩ | ⟨xs, h2, h3, hx, rfl⟩
    · obtain ⟨a, v1, v2, rfl, hq, d1, d2⟩ := tup2_inv hD
      rw [d1.str_inv, d2.str_inv] at hq
      refine q_asg (ix_of (i := 0) rfl hq rfl rfl) fun H1 e1 => ?_
      refine q_when (b := true) (et_is (et_test (ev_op (ev_var rfl) (ev_cS (l := lit "text") rfl) rv_eqS)) (decide_eq_true rfl)) (fun _ H2 e2 => ?_) (fun z => nomatch z)
      exact s_ret (fmt_ev (ea_cons (ix_of (i := 1) rfl (e2 _ _ (e1 _ _ hq)) rfl rfl) ea_nil) (by omega)) fun H3 e3 => q H3 ((e1.trans e2).trans e3)
    · obtain ⟨a, v1, v2, rfl, hq, d1, d2⟩ := tup2_inv hD
      rw [d1.str_inv, d2.str_inv] at hq
      refine q_asg (ix_of (i := 0) rfl hq rfl rfl) fun H1 e1 => ?_
      refine q_when (b := false) (et_is (et_test (ev_op (ev_var rfl) (ev_cS (l := lit "text") rfl) rv_eqS)) (decide_eq_false wn.1)) (fun z => nomatch z) fun _ H2 e2 => ?_
      refine q_when (b := true) (et_is (et_test (ev_op (ev_var rfl) (ev_cS (l := lit "name") rfl) rv_eqS)) (decide_eq_true rfl)) (fun _ H3 e3 => ?_) (fun z => nomatch z)
      exact s_ret (ix_of (i := 1) rfl (e3 _ _ (e2 _ _ (e1 _ _ hq))) rfl rfl) fun H4 e4 => q H4 (((e1.trans e2).trans e3).trans e4)
    · obtain ⟨a, v1, v2, v3, rfl, hq, d1, d2, d3⟩ := tup3_inv hD
      rw [d1.str_inv, d2.str_inv] at hq
      obtain ⟨q3, vs, rfl, hq3, hD3⟩ := d3.tup_inv
      have hm3 : m ≤ 3 := (fun_words _ (arity_fun ha)).2.2.1
      have w7 : w.length ≤ 7 := (fun_words _ (arity_fun ha)).2.2.2.2.1
      refine q_asg (ix_of (i := 0) rfl hq rfl rfl) fun H1 e1 => ?_
      refine q_when (b := false) (et_is (et_test (ev_op (ev_var rfl) (ev_cS (l := lit "text") rfl) rv_eqS)) (decide_eq_false wn.2.1)) (fun z => nomatch z) fun _ H2 e2 => ?_
      refine q_when (b := false) (et_is (et_test (ev_op (ev_var rfl) (ev_cS (l := lit "name") rfl) rv_eqS)) (decide_eq_false wn.2.2.2.1)) (fun z => nomatch z) fun _ H3 e3 => ?_
      refine q_when (b := true) (et_is (et_test (ev_op (ev_var rfl) (ev_cS (l := lit "call") rfl) rv_eqS)) (decide_eq_true rfl)) (fun _ H4 e4 => ?_) (fun z => nomatch z)
      have e14 := ((e1.trans e2).trans e3).trans e4
      have hq4 := e14 _ _ hq
      have hfl : (w ++ ([40] ++ (TL.joinL [44, 32] (xs.map fun y : Xp => y.2.1) ++ [41]))).length ≤ LB (n + 1) := hlen
      simp only [List.length_append, List.length_singleton] at hfl
      refine q_asg (v := .str (S (TL.joinL [44, 32] (xs.map fun y : Xp => y.2.1)))) (ev_join (s := [44, 32]) (ys := xs.map fun y : Xp => y.2.1) (ev_cS rfl) (el_parts (a := q3) (ix_of (i := 2) rfl hq4 rfl rfl) (e14 _ _ hq3) (hD3.mono e14) (by omega) (fun _ => rfl) fun y hy v H5 e5 hv => ev_call (dvs := []) (ea_cons (ev_var rfl) ea_nil) fun H6 e6 Q q E => ⟨v, c', y, rfl, hx y hy, by omega, hv.mono e6, q⟩) (join_sum (n := LB n) (fun l hl => by
        obtain ⟨y, hy, rfl⟩ := List.mem_map.1 hl
        exact wf_len n c' y (hx y hy)) (by rw [List.length_map]; omega) hlb (by decide))) fun H5 e5 => ?_
      refine s_ret (ev_is (ev_js (ls := [w, [40], TL.joinL [44, 32] (xs.map fun y : Xp => y.2.1), [41]]) (.cons (ev_fmtS (ix_of (i := 1) rfl (e5 _ _ hq4) rfl rfl) (by omega)) (.cons (ev_cS (l := [40]) rfl) (.cons (ev_fmtS (ev_var rfl) (by omega)) (.cons (ev_cS (l := [41]) rfl) .nil)))) (by show w.length + (1 + ((TL.joinL [44, 32] (xs.map fun y : Xp => y.2.1)).length + (1 + 0))) ≤ 100000; omega)) ?_) fun H6 e6 => q H6 ((e14.trans e5).trans e6)
      refine congrArg (fun z => V.str (S z)) ?_
      show w ++ ([40] ++ (TL.joinL [44, 32] (xs.map fun y : Xp => y.2.1) ++ ([41] ++ []))) = _
      rw [List.append_nil]
    · obtain ⟨a, v1, v2, rfl, hq, d1, d2⟩ := tup2_inv hD
      rw [d1.str_inv] at hq
      obtain ⟨q3, vs, rfl, hq3, hD3⟩ := d2.tup_inv
      refine q_asg (ix_of (i := 0) rfl hq rfl rfl) fun H1 e1 => ?_
      refine q_when (b := false) (et_is (et_test (ev_op (ev_var rfl) (ev_cS (l := lit "text") rfl) rv_eqS)) (decide_eq_false wn.2.2.1)) (fun z => nomatch z) fun _ H2 e2 => ?_
      refine q_when (b := false) (et_is (et_test (ev_op (ev_var rfl) (ev_cS (l := lit "name") rfl) rv_eqS)) (decide_eq_false wn.2.2.2.2.1)) (fun z => nomatch z) fun _ H3 e3 => ?_
      refine q_when (b := false) (et_is (et_test (ev_op (ev_var rfl) (ev_cS (l := lit "call") rfl) rv_eqS)) (decide_eq_false wn.2.2.2.2.2)) (fun z => nomatch z) fun _ H4 e4 => ?_
      have e14 := ((e1.trans e2).trans e3).trans e4
      have hq4 := e14 _ _ hq
      exact s_ret (ev_join (s := [32, 43, 32]) (ys := xs.map fun y : Xp => y.2.1) (ev_cS rfl) (el_parts (a := q3) (ix_of (i := 1) rfl hq4 rfl rfl) (e14 _ _ hq3) (hD3.mono e14) (by omega) (fun _ => rfl) fun y hy v H5 e5 hv => ev_call (dvs := []) (ea_cons (ev_var rfl) ea_nil) fun H6 e6 Q q E => ⟨v, c, y, rfl, (hx y hy).1, by omega, hv.mono e6, q⟩) (join_sum (n := LB n) (fun l hl => by
        obtain ⟨y, hy, rfl⟩ := List.mem_map.1 hl
        exact wf_len n c y (hx y hy).1) (by rw [List.length_map]; omega) hlb (by decide))) fun H6 e6 => q H6 (e14.trans e6)
def sp__law_written (_ : PySem.W.Frag) (n : Nat) : Sp := fun vs H Q _ => ∃ (v : V) (c : Nat) (x : Xp), vs = [v] ∧ WF n c x ∧ n ≤ 8 ∧ Dt H v x.1 ∧ Rt H (.str (S x.2.1)) Q
theorem ok__law_written0 {f : Addr} {fd : FuncData} {lv : Nat} (F : Fun K "_law_written" "_law_written" s__law_written f fd) : FnOk P w K mg base CX0 (lv + 1) f fd ["expression"] (sp__law_written K 0) := by
  refine F.ok sc__law_written (fun vs H Q E h => ?_) (fun cdv A outer s H vs Q E hr h => ?_)
  · obtain ⟨v, c, x, rfl, _⟩ := h
    rfl
  · obtain ⟨v, c, x, rfl, h, _⟩ := h
    exact h.elim
theorem str_ev {σ : L2.St} {H : Hp} {ta : TA} {E : XK} {l : List Nat} (h : EvA ta σ H [.str (S l)]) (hl : l.length ≤ 9000) : Ev (tCall (sp__law_string K) [] E ta) σ H (.str (S (wr l))) := ev_call (dvs := []) h fun H1 e Q q E => ⟨l, rfl, hl, q⟩
theorem ok__law_written {f : Addr} {fd : FuncData} {lv n : Nat} (F : Fun K "_law_written" "_law_written" s__law_written f fd) (T : Tx mg) (G : Gx K mg) (C__law_string : Kn.Cl P w K mg base 1 "_law_string" (sp__law_string K)) (C__law_written : Kn.Cl P w K mg base (lv + 1) "_law_written" (sp__law_written K n)) : FnOk P w K mg base CX0 (lv + 2) f fd ["expression"] (sp__law_written K (n + 1)) := by
  refine F.ok sc__law_written (fun vs H Q E h => ?_) (fun cdv A outer s H vs Q E hr h => ?_)
  · obtain ⟨v, c, x, rfl, _⟩ := h
    rfl
  · obtain ⟨v, c, x, rfl, hW, hn8, hD, q⟩ := h
    refine ⟨_, (pss_cons (ps_if (pt_cmpR op_eq (pe_ix ix_tup (pv 0) pe_int (fun _ _ => rfl)) pe_str (nomark _)) (pss_one (ps_ret (Kn.pe_cl C__law_string hr (by omega) (by rfl) (pa_cons (pe_ix ix_tup (pv 0) pe_int (fun _ _ => rfl)) pa_nil)))) pss_nil)
      (pss_cons (ps_if (pt_cmpR op_eq (pe_ix ix_tup (pv 0) pe_int (fun _ _ => rfl)) pe_str (nomark _)) (pss_one (ps_ret (pe_ix ix_tup (pv 0) pe_int (fun _ _ => rfl)))) pss_nil)
      (pss_cons (ps_if (pt_cmpR op_eq (pe_ix ix_tup (pv 0) pe_int (fun _ _ => rfl)) pe_str (nomark _)) (pss_one (ps_ret (Kn.pe_joinN (pe_join pe_str (pe_lc (own := [("term", 1)]) rfl sc__law_written.nd (pi_tup (pe_ix ix_tup (pv 0) pe_int (fun _ _ => rfl))) (blkOk_by (own := [("term", 1)]) (N := N__law_written) (sc := defScope s__law_written) (by decide +kernel)) (fun _ _ _ _ _ => pg_name (i := 1) sc__law_written.nd rfl (Or.inl rfl)) (fun _ _ _ _ _ => pts_nil) (fun _ _ _ _ _ => (Kn.pe_cl C__law_written hr (by omega) (by rfl) (pa_cons (pv 1) pa_nil)))))))) pss_nil)
      (pss_one (ps_ret (pe_op Kn.op_addS (pe_op Kn.op_addS (pe_op Kn.op_addS (pe_ix ix_tup (pv 0) pe_int (fun _ _ => rfl)) pe_str) (Kn.pe_joinN (pe_join pe_str (pe_lc (own := [("argument", 2)]) rfl sc__law_written.nd (pi_tup (pe_ix ix_tup (pv 0) pe_int (fun _ _ => rfl))) (blkOk_by (own := [("argument", 2)]) (N := N__law_written) (sc := defScope s__law_written) (by decide +kernel)) (fun _ _ _ _ _ => pg_name (i := 2) sc__law_written.nd rfl (Or.inl rfl)) (fun _ _ _ _ _ => pts_nil) (fun _ _ _ _ _ => (Kn.pe_cl C__law_written hr (by omega) (by rfl) (pa_cons (pv 2) pa_nil))))))) pe_str)))))), ?_⟩
    have wn := words_ne
    have hlb := LB_le (r := n) (by omega)
    have hlen := wf_len _ _ _ hW
    have hlb1 := LB_le hn8
    rcases hW with ⟨l, hl, _, rfl⟩ | ⟨l, hl, rfl⟩ | ⟨w, m, c', xs, _, ha, hm, hx, rfl⟩ | ⟨xs, h2, h3, hx, rfl⟩
    · obtain ⟨a, v1, v2, rfl, hq, d1, d2⟩ := tup2_inv hD
      rw [d1.str_inv, d2.str_inv] at hq
      refine q_when (b := true) (et_is (et_test (ev_op (ix_of (i := 0) rfl hq rfl rfl) (ev_cS (l := lit "text") rfl) rv_eqS)) (decide_eq_true rfl)) (fun _ H2 e2 => ?_) (fun z => nomatch z)
      exact s_ret (str_ev (ea_cons (ix_of (i := 1) rfl (e2 _ _ hq) rfl rfl) ea_nil) (by omega)) fun H3 e3 => q H3 (e2.trans e3)
    · obtain ⟨a, v1, v2, rfl, hq, d1, d2⟩ := tup2_inv hD
      rw [d1.str_inv, d2.str_inv] at hq
      refine q_when (b := false) (et_is (et_test (ev_op (ix_of (i := 0) rfl hq rfl rfl) (ev_cS (l := lit "text") rfl) rv_eqS)) (decide_eq_false wn.1)) (fun z => nomatch z) fun _ H2 e2 => ?_
      refine q_when (b := true) (et_is (et_test (ev_op (ix_of (i := 0) rfl (e2 _ _ hq) rfl rfl) (ev_cS (l := lit "name") rfl) rv_eqS)) (decide_eq_true rfl)) (fun _ H3 e3 => ?_) (fun z => nomatch z)
      exact s_ret (ix_of (i := 1) rfl (e3 _ _ (e2 _ _ hq)) rfl rfl) fun H4 e4 => q H4 ((e2.trans e3).trans e4)
    · obtain ⟨a, v1, v2, v3, rfl, hq, d1, d2, d3⟩ := tup3_inv hD
      rw [d1.str_inv, d2.str_inv] at hq
      obtain ⟨q3, vs, rfl, hq3, hD3⟩ := d3.tup_inv
      have hm3 : m ≤ 3 := (fun_words _ (arity_fun ha)).2.2.1
      have w7 : w.length ≤ 7 := (fun_words _ (arity_fun ha)).2.2.2.2.1
      refine q_when (b := false) (et_is (et_test (ev_op (ix_of (i := 0) rfl hq rfl rfl) (ev_cS (l := lit "text") rfl) rv_eqS)) (decide_eq_false wn.2.1)) (fun z => nomatch z) fun _ H2 e2 => ?_
      refine q_when (b := false) (et_is (et_test (ev_op (ix_of (i := 0) rfl (e2 _ _ hq) rfl rfl) (ev_cS (l := lit "name") rfl) rv_eqS)) (decide_eq_false wn.2.2.2.1)) (fun z => nomatch z) fun _ H3 e3 => ?_
      refine q_when (b := false) (et_is (et_test (ev_op (ix_of (i := 0) rfl (e3 _ _ (e2 _ _ hq)) rfl rfl) (ev_cS (l := lit "join") rfl) rv_eqS)) (decide_eq_false fun z => wn.2.2.2.2.2 z.symm)) (fun z => nomatch z) fun _ H4 e4 => ?_
      have e14 := (e2.trans e3).trans e4
      have hq4 := e14 _ _ hq
      have hfl : (w ++ ([40] ++ (TL.joinL [44, 32] (xs.map fun y : Xp => y.2.1) ++ [41]))).length ≤ LB (n + 1) := hlen
      simp only [List.length_append, List.length_singleton] at hfl
      refine s_ret (ev_is (ev_op (ev_op (ev_op (ix_of (i := 1) rfl hq4 rfl rfl) (ev_cS (l := [40]) rfl) (rv_addS (by show w.length + 1 ≤ 100000; omega))) (ev_join (s := [44, 32]) (ys := xs.map fun y : Xp => y.2.1) (ev_cS rfl) (el_parts (a := q3) (ix_of (i := 2) rfl hq4 rfl rfl) (e14 _ _ hq3) (hD3.mono e14) (by omega) (fun _ => rfl) fun y hy v H5 e5 hv => ev_call (dvs := []) (ea_cons (ev_var rfl) ea_nil) fun H6 e6 Q q E => ⟨v, c', y, rfl, hx y hy, by omega, hv.mono e6, q⟩) (join_sum (n := LB n) (fun l hl => by
        obtain ⟨y, hy, rfl⟩ := List.mem_map.1 hl
        exact wf_len n c' y (hx y hy)) (by rw [List.length_map]; omega) hlb (by decide))) (rv_addS (by simp only [List.length_append, List.length_singleton]; omega))) (ev_cS (l := [41]) rfl) (rv_addS (by simp only [List.length_append, List.length_singleton]; omega))) ?_) fun H6 e6 => q H6 (e14.trans e6)
      refine congrArg (fun z => V.str (S z)) ?_
      show w ++ [40] ++ TL.joinL [44, 32] (xs.map fun y : Xp => y.2.1) ++ [41] = w ++ ([40] ++ (TL.joinL [44, 32] (xs.map fun y : Xp => y.2.1) ++ [41]))
      simp only [List.append_assoc]
    · obtain ⟨a, v1, v2, rfl, hq, d1, d2⟩ := tup2_inv hD
      rw [d1.str_inv] at hq
      obtain ⟨q3, vs, rfl, hq3, hD3⟩ := d2.tup_inv
      refine q_when (b := false) (et_is (et_test (ev_op (ix_of (i := 0) rfl hq rfl rfl) (ev_cS (l := lit "text") rfl) rv_eqS)) (decide_eq_false wn.2.2.1)) (fun z => nomatch z) fun _ H2 e2 => ?_
      refine q_when (b := false) (et_is (et_test (ev_op (ix_of (i := 0) rfl (e2 _ _ hq) rfl rfl) (ev_cS (l := lit "name") rfl) rv_eqS)) (decide_eq_false wn.2.2.2.2.1)) (fun z => nomatch z) fun _ H3 e3 => ?_
      refine q_when (b := true) (et_is (et_test (ev_op (ix_of (i := 0) rfl (e3 _ _ (e2 _ _ hq)) rfl rfl) (ev_cS (l := lit "join") rfl) rv_eqS)) (decide_eq_true rfl)) (fun _ H4 e4 => ?_) (fun z => nomatch z)
      have e14 := (e2.trans e3).trans e4
      have hq4 := e14 _ _ hq
      exact s_ret (ev_join (s := [32, 43, 32]) (ys := xs.map fun y : Xp => y.2.1) (ev_cS rfl) (el_parts (a := q3) (ix_of (i := 1) rfl hq4 rfl rfl) (e14 _ _ hq3) (hD3.mono e14) (by omega) (fun _ => rfl) fun y hy v H5 e5 hv => ev_call (dvs := []) (ea_cons (ev_var rfl) ea_nil) fun H6 e6 Q q E => ⟨v, c, y, rfl, (hx y hy).1, by omega, hv.mono e6, q⟩) (join_sum (n := LB n) (fun l hl => by
        obtain ⟨y, hy, rfl⟩ := List.mem_map.1 hl
        exact wf_len n c y (hx y hy).1) (by rw [List.length_map]; omega) hlb (by decide))) fun H6 e6 => q H6 (e14.trans e6)
end

section
variable {P : Program} {w : World} {K : PySem.W.Frag} {mg : Str → Option Value} {base : Heap}
/-! ### drawn expressions -/
def natV (ns : List Nat) : List V := ns.map fun k : Nat => V.int (k : Int)
def Kp (H H' : Hp) (p : Addr) : Prop := ∀ b o, H b = some o → b ≠ p → H' b = some o
theorem Kp.refl (H : Hp) (p : Addr) : Kp H H p := fun _ _ h _ => h
theorem Kp.trans {H1 H2 H3 : Hp} {p : Addr} (a : Kp H1 H2 p) (b : Kp H2 H3 p) : Kp H1 H3 p := fun x o h n => b x o (a x o h n) n
theorem Ex.kp {H1 H2 : Hp} {p : Addr} (e : Ex H1 H2) : Kp H1 H2 p := fun x o h _ => e x o h
theorem Kp.dt {H H' : Hp} {p : Addr} {xs : List V} {v : V} {d : PyData} (k : Kp H H' p) (hp : H p = some (.lst xs)) (h : Dt H v d) (n : noL d = true) : Dt H' v d := Dt.tups (fun q ys hq => k q _ hq (ne_of hq hp (by intro z; cases z))) h n
theorem Kp.dta {H H' : Hp} {p : Addr} {xs : List V} {vs : List V} {ds : List PyData} (k : Kp H H' p) (hp : H p = some (.lst xs)) (h : DtA H vs ds) (n : noLA ds = true) : DtA H' vs ds := DtA.tups (fun q ys hq => k q _ hq (ne_of hq hp (by intro z; cases z))) h n
def sp__law_take (_ : PySem.W.Frag) : Sp := fun vs H Q _ => ∃ (p : Addr) (ns : List Nat) (L : Nat), vs = [.ref p, .int (L : Int)] ∧ H p = some (.lst (natV ns)) ∧ 0 < L ∧ ∀ (m : Nat) ns' H', m < L → H' p = some (.lst (natV ns')) → Kp H H' p → Q (.int (m : Int)) H'
theorem natV_drop (ns : List Nat) : (natV ns).dropLast = natV ns.dropLast := by
  unfold natV
  rw [List.map_dropLast]
theorem ok__law_take {f : Addr} {fd : FuncData} (F : Fun K "_law_take" "_law_take" s__law_take f fd) (T : Tx mg) (G : Gx K mg)  : FnOk P w K mg base CX0 1 f fd ["numbers", "limit"] (sp__law_take K) := by
  refine F.ok sc__law_take (fun vs H Q E h => ?_) (fun cdv A outer s H vs Q E hr h => ?_)
  · obtain ⟨p, ns, L, rfl, _⟩ := h
    rfl
  · obtain ⟨p, ns, L, rfl, hp, hL, q⟩ := h
    refine ⟨_, (pss_cons (ps_if (pt_cmpR op_eq (pe_callB Kn.cr_lenSeq (by rfl) T.b_len PySem.boot_len (pa_cons (pv 0) pa_nil)) pe_int (nomark _)) (pss_one (ps_ret pe_int)) pss_nil)
      (pss_one (ps_ret (pe_op op_mod (pe_callTy Kn.cr_int1 (by rfl) T.b_int (by decide +kernel) (pa_cons (pe_bm0 PySem.F.plainAttrs_list PySem.F.slot_list_pop PySem.F.type_list_pop mt_pop (pv 0)) pa_nil)) (pv 1))))), ?_⟩
    refine q_when (b := decide (ns.length = 0)) (et_is (et_test (ev_op (ev_len (ev_var rfl) (sq_of hp)) ev_c rv_eqI)) (by unfold natV; rw [List.length_map, decide_eq_decide]; omega)) (fun _ H1 e1 => ?_) fun hb H1 e1 => ?_
    · exact s_ret (v := .int ((0 : Nat) : Int)) ev_c fun H2 e2 => q 0 ns H2 hL (e2 _ _ (e1 _ _ hp)) (Ex.kp (e1.trans e2))
    · have hb := of_decide_eq_false hb
      have hlt : ns.length - 1 < ns.length := by omega
      have hx : (natV ns)[(natV ns).length - 1]? = some (.int (ns[ns.length - 1] : Int)) := by
        unfold natV
        rw [List.length_map, List.getElem?_map, List.getElem?_eq_getElem hlt]
        rfl
      generalize ns[ns.length - 1] = m at hx
      have hp1 := e1 _ _ hp
      refine ⟨_, rfl, Or.inl ⟨rfl, _, sq_of hp1⟩, p, _, _, rfl, rfl, hp1, hx, ?_⟩
      refine .inl ⟨_, rfl, ?_⟩
      refine ⟨_, rfl, (m : Int), (L : Int), rfl, rfl, by omega, ?_⟩
      show Q (.int ((m : Int) % (L : Int))) (upd H1 p (.lst (natV ns).dropLast))
      rw [natV_drop, ← Int.natCast_emod]
      exact q (m % L) ns.dropLast _ (Nat.mod_lt m hL) upd_same fun b o hb hne => by rw [upd_ne hne]; exact e1 _ _ hb
/-- a list is made of what is drawn -/
theorem lc_elems {σ : L2.St} {H1 : Hp} {n : Nat} {te : TE} {j : Nat} {vs : List Nat} {p : Addr} {ns : List Nat} {Pr : Xp → Prop} {Q : VK} (hn : n ≤ 1000) (hp : H1 p = some (.lst (natV ns))) (hw : ∀ x, wipe ((wipe σ vs).set j (some x)) vs = wipe σ vs) (hx : ∀ x, Pr x → noL x.1 = true)
    (he : ∀ (i : Nat) H2 ns2, H2 p = some (.lst (natV ns2)) → ∀ Q' : VK, (∀ v x ns3 H3, Pr x → H3 p = some (.lst (natV ns3)) → Kp H2 H3 p → Dt H3 v x.1 → Q' v H3) → te ((wipe σ vs).set j (some (.int (0 + (i : Int))))) H2 Q')
    (q : ∀ D acc (xs : List Xp) ns2 H3, H1 D = none → H3 D = some (.lst acc) → DtA H3 acc (xs.map fun x : Xp => x.1) → xs.length = n → (∀ x ∈ xs, Pr x) → H3 p = some (.lst (natV ns2)) → Kp H1 H3 p → Q (.ref D) H3) :
    tLc (fun _ H R => R (Itr 0 n) H) (gName j) tYes te vs σ H1 Q := fun D hD => by
  have noA : ∀ xs : List Xp, (∀ x ∈ xs, Pr x) → noLA (xs.map fun x : Xp => x.1) = true := fun xs => by
    induction xs with
    | nil => intro _; show noLA [] = true; unfold noLA; rfl
    | cons y r k =>
      intro h
      show noLA (y.1 :: r.map fun x : Xp => x.1) = true
      unfold noLA
      rw [hx y (h y List.mem_cons_self), k fun z hz => h z (List.mem_cons_of_mem _ hz)]
      rfl
  refine lc_it (walk_range (lo := 0) (n := n)) (fun i H' => ∃ (acc : List V) (xs : List Xp) (ns2 : List Nat), H' D = some (.lst acc) ∧ DtA H' acc (xs.map fun x : Xp => x.1) ∧ xs.length = i ∧ (∀ x ∈ xs, Pr x) ∧ H' p = some (.lst (natV ns2)) ∧ Kp H1 H' p) ⟨[], [], ns, upd_same, .nil, rfl, (fun _ h => nomatch h), (by rw [upd_ne (ne_of_none hp hD)]; exact hp), fun b o hb _ => (by rw [upd_ne (ne_of_none hb hD)]; exact hb)⟩ (fun _ _ _ _ => trivial) (fun i x H2 H3 hi ⟨acc, xs, ns2, h1, h2, h3, h4, h5, h6⟩ y => ?_) (fun H' ⟨acc, xs, ns2, h1, h2, h3, h4, h5, h6⟩ => q D acc xs ns2 H' hD h1 h2 h3 h4 h5 h6)
  obtain ⟨rfl, rfl⟩ := y
  refine ⟨hw _, ?_⟩
  have npD : p ≠ D := ne_of_none hp hD
  show te _ _ _
  refine he i _ ns2 h5 _ fun v x ns3 H4 hPr hp4 k4 hv => ?_
  have hD4 := k4 _ _ h1 npD.symm
  have hl := h2.len
  rw [List.length_map] at hl
  have h24 := Kp.dta k4 h5 h2 (noA xs h4)
  refine ⟨acc, hD4, sz_lt (by omega), acc ++ [v], xs ++ [x], ns3, upd_same, ?_, by rw [List.length_append, h3]; rfl, fun z hz => ?_, by rw [upd_ne npD]; exact hp4, fun b o hb hne => ?_⟩
  · rw [List.map_append]
    exact dta_app hD4 h24 hv (noA xs h4) (hx x hPr)
  · rcases List.mem_append.1 hz with z1 | z1
    · exact h4 z z1
    · rw [List.mem_singleton.1 z1]; exact hPr
  · rw [upd_ne (ne_of_none hb hD)]
    exact k4 _ _ (h6 b o hb hne) hne
theorem lc_open {σ : L2.St} {H : Hp} {ta : TA} {g : TG} {tt : TT} {te : TE} {vs : List Nat} {Q : VK} (h : ta σ H fun us H1 => ∃ j : Int, us = [.int j] ∧ -(2 ^ 62) ≤ j ∧ j < 2 ^ 62 ∧ tLc (fun _ H R => R (Itr 0 j.toNat) H) g tt te vs σ H1 Q) : tLc (iRng1 ta) g tt te vs σ H Q := h
theorem tcons1 {σ : L2.St} {H : Hp} {te : TE} {R : List V → Hp → Prop} (h : te σ H fun v H1 => R [v] H1) : tCons te tNil σ H R := h
theorem tcall_open {σ : L2.St} {H : Hp} {ta : TA} {sp : Sp} {E : XK} {Q : VK} (h : ta σ H fun vs H1 => sp (vs ++ []) H1 Q E) : tCall sp [] E ta σ H Q := h
theorem tcb_open {σ : L2.St} {H : Hp} {ta : TA} {r : List V → Hp → VK → Prop} {Q : VK} (h : ta σ H fun vs H1 => r vs H1 Q) : tCB r ta σ H Q := h
theorem top_open {σ : L2.St} {H : Hp} {ta tb : TE} {r : R2} {Q : VK} (h : ta σ H fun x H1 => tb σ H1 fun y H2 => r x y H2 Q) : tOp r ta tb σ H Q := h
theorem ret_tup2 {σ : L2.St} {H : Hp} {D : Ends} {te : TE} {v1 : V} (h : te σ H fun v H1 => [v1, v].length ≤ sizeLine ∧ ∀ q, H1 q = none → D.rt (.ref q) (upd H1 q (.tup [v1, v]))) : tRet (tTup (tCons (tC v1) (tCons te tNil))) D σ H := h
theorem ret_tup3 {σ : L2.St} {H : Hp} {D : Ends} {te1 te : TE} {v1 : V} (h : te1 σ H fun v2 H1 => te σ H1 fun v H2 => [v1, v2, v].length ≤ sizeLine ∧ ∀ q, H2 q = none → D.rt (.ref q) (upd H2 q (.tup [v1, v2, v]))) : tRet (tTup (tCons (tC v1) (tCons te1 (tCons te tNil)))) D σ H := h
theorem q_ifFin {σ : L2.St} {H : Hp} {D : Ends} {tz tu : TS} {tc : TT} {b : Bool} (h : EvT tc σ H b) (Fin : L2.St → Hp → Prop) (h1 : ∀ Tz : L2.St → Hp → Prop, (∀ σ H, Fin σ H → Tz σ H) → b = true → ∀ H1, Ex H H1 → tu { D with nx := Tz } σ H1) (h2 : b = false → ∀ H1, Ex H H1 → Fin σ H1) (hd : ∀ σ' H', Fin σ' H' → tz D σ' H') : tSeq (tIfS tc tu tNext) tz D σ H :=
  q_when h (fun hb H1 e => h1 (tz D) hd hb H1 e) fun hb H1 e => hd _ _ (h2 hb H1 e)
theorem take_run {σ : L2.St} {H : Hp} {ta tb : TE} {p : Addr} {ns : List Nat} {L : Nat} {E : XK} {Q : VK} (ha : Ev ta σ H (.ref p)) (hb : Ev tb σ H (.int (L : Int))) (hp : H p = some (.lst (natV ns))) (hL : 0 < L) (q : ∀ (m : Nat) ns' H', m < L → H' p = some (.lst (natV ns')) → Kp H H' p → Q (.int (m : Int)) H') : tCall (sp__law_take K) [] E (tCons ta (tCons tb tNil)) σ H Q := by
  refine tcall_open ?_
  exact (ea_cons ha (ea_cons hb ea_nil)) H (Ex.refl H) _ fun H1 e1 => ⟨p, ns, L, rfl, e1 _ _ hp, hL, fun m ns' H' hm hp' k => q m ns' H' hm hp' ((Ex.kp e1).trans k)⟩
def PrI (x : Xp) : Prop := ∃ m : Nat, x.1 = .int (m : Int)
theorem ints_of {H : Hp} : ∀ {acc : List V} {xs : List Xp}, DtA H acc (xs.map fun x : Xp => x.1) → (∀ x ∈ xs, PrI x) → ∃ ms : List Nat, acc = natV ms ∧ ms.length = xs.length
  | _, [], .nil, _ => ⟨[], rfl, rfl⟩
  | _, x :: xs, .cons h r, hx => by
    obtain ⟨m, hm⟩ := hx x List.mem_cons_self
    have h : Dt H _ x.1 := h
    rw [hm] at h
    obtain ⟨ms, e, l⟩ := ints_of r fun z hz => hx z (List.mem_cons_of_mem _ hz)
    exact ⟨m :: ms, by rw [h.int_inv, e]; rfl, by rw [List.length_cons, List.length_cons, l]⟩
theorem C_ok12 : okS (C1 ++ C2) = true := by decide +kernel
theorem textN_ok (ns : List Nat) : okS (textN ns) = true := by
  refine List.all_eq_true.mpr fun c hc => ?_
  obtain ⟨n, _, rfl⟩ := List.mem_map.1 hc
  have hlt : n % 95 < (C1 ++ C2).length := by rw [C_len]; exact Nat.mod_lt _ (by decide)
  rw [List.getD_eq_getElem?_getD, List.getElem?_eq_getElem hlt]
  exact List.all_eq_true.mp C_ok12 _ (List.getElem_mem hlt)
def sp__law_term (_ : PySem.W.Frag) (n : Nat) : Sp := fun vs H Q _ => ∃ (p : Addr) (ns : List Nat) (dp : Nat), vs = [.ref p, .int (dp : Int)] ∧ dp ≤ n ∧ H p = some (.lst (natV ns)) ∧ ∀ v x ns' H', WF (2 * dp + 1) dp x → ¬ isJoin x.1 → H' p = some (.lst (natV ns')) → Kp H H' p → Dt H' v x.1 → Q v H'
def sp__law_expression (_ : PySem.W.Frag) (n : Nat) : Sp := fun vs H Q _ => ∃ (p : Addr) (ns : List Nat) (dp : Nat), vs = [.ref p, .int (dp : Int)] ∧ dp < n ∧ H p = some (.lst (natV ns)) ∧ ∀ v x ns' H', WF (2 * dp + 2) dp x → H' p = some (.lst (natV ns')) → Kp H H' p → Dt H' v x.1 → Q v H'
theorem ok__law_expression0 {f : Addr} {fd : FuncData} {lv : Nat} (F : Fun K "_law_expression" "_law_expression" s__law_expression f fd) : FnOk P w K mg base CX0 (lv + 1) f fd ["numbers", "depth"] (sp__law_expression K 0) := by
  refine F.ok sc__law_expression (fun vs H Q E h => ?_) (fun cdv A outer s H vs Q E hr h => ?_)
  · obtain ⟨p, ns, dp, rfl, _⟩ := h
    rfl
  · obtain ⟨p, ns, dp, rfl, h, _⟩ := h
    exact absurd h (Nat.not_lt_zero _)
theorem litS (x : Str) : S (lit x) = x := (S1 x rfl).symm
theorem fun_ix : ∀ i < 13, ((funT.getD i ([], 0)).1, (funT.getD i ([], 0)).2) ∈ funT ∧ arity (funT.getD i ([], 0)).1 = some (funT.getD i ([], 0)).2 := by decide +kernel
theorem fun_get {i : Nat} (h : i < 13) : (funT.map fun x => V.str (S x.1))[i]? = some (.str (S (funT.getD i ([], 0)).1)) ∧ (funT.map fun x => V.int (x.2 : Int))[i]? = some (.int ((funT.getD i ([], 0)).2 : Int)) := by
  have hl : i < funT.length := h
  rw [List.getElem?_map, List.getElem?_map, List.getD_eq_getElem?_getD, List.getElem?_eq_getElem hl]
  exact ⟨rfl, rfl⟩
theorem nms_get {i : Nat} (h : i < 4) : (nms.map fun l => V.str (S l))[i]? = some (.str (S (nms.getD i []))) ∧ nms.getD i [] ∈ nms := by
  have hl : i < nms.length := h
  rw [List.getElem?_map, List.getD_eq_getElem?_getD, List.getElem?_eq_getElem hl]
  exact ⟨rfl, List.getElem_mem hl⟩
theorem ok__law_term {f : Addr} {fd : FuncData} {lv n : Nat} (F : Fun K "_law_term" "_law_term" s__law_term f fd) (T : Tx mg) (G : Gx K mg) (C__law_take : Kn.Cl P w K mg base 1 "_law_take" (sp__law_take K)) (C__law_text : Kn.Cl P w K mg base 1 "_law_text" (sp__law_text K)) (C__law_expression : Kn.Cl P w K mg base (lv + 1) "_law_expression" (sp__law_expression K n)) : FnOk P w K mg base CX0 (lv + 2) f fd ["numbers", "depth"] (sp__law_term K n) := by
  refine F.ok sc__law_term (fun vs H Q E h => ?_) (fun cdv A outer s H vs Q E hr h => ?_)
  · obtain ⟨p, ns, dp, rfl, _⟩ := h
    rfl
  · obtain ⟨p, ns, dp, rfl, hdp, hp, q⟩ := h
    refine ⟨_, (pss_cons (ps_set (i := 2) sc__law_term.nd rfl (Or.inl rfl) (Kn.pe_cl C__law_take hr (by omega) (by rfl) (pa_cons (pv 0) (pa_cons pe_int pa_nil))))
      (pss_cons (ps_if (PW.pt (pw_and (pt_cmpR op_eq (pv 1) pe_int (nomark _)) (pw_and1 (pt_cmpR op_gt (pv 2) pe_int (nomark _))))) (pss_one (ps_set (i := 2) sc__law_term.nd rfl (Or.inl rfl) (pe_op op_sub (pv 2) pe_int))) pss_nil)
      (pss_cons (ps_if (pt_cmpR op_eq (pv 2) pe_int (nomark _)) (pss_one (ps_ret (pe_tup (pa_cons pe_str (pa_cons (Kn.pe_cl C__law_text hr (by omega) (by rfl) (pa_cons (pe_lc (own := [("k", 6)]) rfl sc__law_term.nd (pi_range1 rfl T.b_range (pa_cons (Kn.pe_cl C__law_take hr (by omega) (by rfl) (pa_cons (pv 0) (pa_cons pe_int pa_nil))) pa_nil)) (blkOk_by (own := [("k", 6)]) (N := N__law_term) (sc := defScope s__law_term) (by decide +kernel)) (fun _ _ _ _ _ => pg_name (i := 6) sc__law_term.nd rfl (Or.inl rfl)) (fun _ _ _ _ _ => pts_nil) (fun _ _ _ _ _ => (Kn.pe_cl C__law_take hr (by omega) (by rfl) (pa_cons (pv 0) (pa_cons pe_int pa_nil))))) pa_nil)) pa_nil))))) pss_nil)
      (pss_cons (ps_if (pt_cmpR op_eq (pv 2) pe_int (nomark _)) (pss_one (ps_ret (pe_tup (pa_cons pe_str (pa_cons (pe_ix ix_list (pe_lst (pa_cons pe_str (pa_cons pe_str (pa_cons pe_str (pa_cons pe_str pa_nil))))) (Kn.pe_cl C__law_take hr (by omega) (by rfl) (pa_cons (pv 0) (pa_cons pe_int pa_nil))) (fun _ _ => rfl)) pa_nil))))) pss_nil)
      (pss_cons (ps_set (i := 3) sc__law_term.nd rfl (Or.inl rfl) (pe_lst (pa_cons pe_str (pa_cons pe_str (pa_cons pe_str (pa_cons pe_str (pa_cons pe_str (pa_cons pe_str (pa_cons pe_str (pa_cons pe_str (pa_cons pe_str (pa_cons pe_str (pa_cons pe_str (pa_cons pe_str (pa_cons pe_str pa_nil)))))))))))))))
      (pss_cons (ps_set (i := 4) sc__law_term.nd rfl (Or.inl rfl) (pe_lst (pa_cons pe_int (pa_cons pe_int (pa_cons pe_int (pa_cons pe_int (pa_cons pe_int (pa_cons pe_int (pa_cons pe_int (pa_cons pe_int (pa_cons pe_int (pa_cons pe_int (pa_cons pe_int (pa_cons pe_int (pa_cons pe_int pa_nil)))))))))))))))
      (pss_cons (ps_set (i := 5) sc__law_term.nd rfl (Or.inl rfl) (Kn.pe_cl C__law_take hr (by omega) (by rfl) (pa_cons (pv 0) (pa_cons pe_int pa_nil))))
      (pss_one (ps_ret (pe_tup (pa_cons pe_str (pa_cons (pe_ix ix_list (pv 3) (pv 5) (fun _ _ => rfl)) (pa_cons (pe_callTy call_tuple_of (by rfl) T.b_tuple (by decide +kernel) (pa_cons (pe_lc (own := [("k", 6)]) rfl sc__law_term.nd (pi_range1 rfl T.b_range (pa_cons (pe_ix ix_list (pv 4) (pv 5) (fun _ _ => rfl)) pa_nil)) (blkOk_by (own := [("k", 6)]) (N := N__law_term) (sc := defScope s__law_term) (by decide +kernel)) (fun _ _ _ _ _ => pg_name (i := 6) sc__law_term.nd rfl (Or.inl rfl)) (fun _ _ _ _ _ => pts_nil) (fun _ _ _ _ _ => (Kn.pe_cl C__law_expression hr (by omega) (by rfl) (pa_cons (pv 0) (pa_cons (pe_op op_sub (pv 1) pe_int) pa_nil))))) pa_nil)) pa_nil))))))))))))), ?_⟩
    refine q_asgC (ea_cons (ev_var rfl) (ea_cons ev_c ea_nil)) fun H1 e1 => ⟨p, ns, 4, rfl, e1 _ _ hp, by decide, fun k1 ns1 H2 hk hp2 kp2 => ?_⟩
    have kA : Kp H H2 p := (Ex.kp e1).trans kp2
    unfold gName
    dsimp only
    refine q_ifFin (b := decide (dp = 0) && decide (1 < k1)) (et_and (et_is (et_test (ev_op (ev_var rfl) ev_c rv_eqI)) (by rw [decide_eq_decide]; omega)) fun _ => et_is (et_test (ev_op (ev_var rfl) ev_c rv_gt)) (by rw [decide_eq_decide]; omega))
      (fun σ' H' => ∃ k' : Nat, σ' = [some (.ref p), some (.int (dp : Int)), some (.int (k' : Int)), none, none, none, none] ∧ k' < 4 ∧ (dp = 0 → k' ≤ 1) ∧ H' p = some (.lst (natV ns1)) ∧ Kp H H' p) (fun Tz hTz hb H3 e3 => ?_) (fun hb H3 e3 => ⟨k1, rfl, hk, fun z => ?_, e3 _ _ hp2, kA.trans (Ex.kp e3)⟩) ?_
    · rw [Bool.and_eq_true, decide_eq_true_eq, decide_eq_true_eq] at hb
      exact s_asg (v := .int ((k1 - 2 : Nat) : Int)) (ev_is (ev_op (ev_var rfl) ev_c rv_I0) (by rw [Int.natCast_sub (by omega)]; rfl)) fun H4 e4 => hTz _ _ ⟨k1 - 2, rfl, by omega, fun _ => by omega, e4 _ _ (e3 _ _ hp2), kA.trans ((Ex.kp e3).trans (Ex.kp e4))⟩
    · rw [z] at hb
      have : ¬ 1 < k1 := by simpa using hb
      omega
    · rintro σ' H3 ⟨k', rfl, hk', hk0, hp3, kB⟩
      refine q_when (b := decide (k' = 0)) (et_is (et_test (ev_op (ev_var rfl) ev_c rv_eqI)) (by rw [decide_eq_decide]; omega)) (fun _ H4 e4 => ?_) fun hb0 H4 e4 => ?_
      · have hp4 := e4 _ _ hp3
        refine ret_tup2 ?_
        refine tcall_open ?_
        refine tcons1 ?_
        refine lc_open ?_
        refine tcons1 ?_
        refine take_run (L := 5) (ev_var rfl) ev_c hp4 (by decide) fun m ns2 H5 hm hp5 k5 => ⟨(m : Int), rfl, by omega, by omega, ?_⟩
        refine lc_elems (n := m) (Pr := PrI) (by omega) hp5 (fun _ => rfl) (fun x ⟨m, e⟩ => by rw [e]; unfold noL; rfl) (fun i H6 ns3 hp6 Q' q' => ?_) fun D acc xs ns3 H6 hD hac hda hxl hPr hp6 k6 => ?_
        · exact take_run (L := 95) (ev_var rfl) ev_c hp6 (by decide) fun m' ns4 H7 hm' hp7 k7 => q' _ (.int (m' : Int), [], []) ns4 H7 ⟨m', rfl⟩ hp7 k7 (.int _)
        · obtain ⟨ms, rfl, hml⟩ := ints_of hda hPr
          refine ⟨D, ms, rfl, ⟨sq_of hac, by omega⟩, fun H7 e7 => ⟨(by show 2 ≤ sizeLine; decide), fun t nt => ?_⟩⟩
          have kC : Kp H (upd H7 t (.tup [.str (Str.ofString "text"), .str (S (textN ms))])) p := fun b o hb hne => (Ex.new nt) _ _ (e7 _ _ (k6 _ _ (k5 _ _ (e4 _ _ (kB _ _ hb hne)) hne) hne))
          exact q _ (textD (textN ms), wr (textN ms), [(kStr, textN ms)]) ns3 _ (.inl ⟨textN ms, by unfold textN; rw [List.length_map]; omega, textN_ok ms, rfl⟩) (not_join _ [] []).1 ((Ex.new nt) _ _ (e7 _ _ hp6)) kC (.tup upd_same (.cons (by rw [litS]; exact .str _) (.cons (.str _) .nil)))
      · have hb0 := of_decide_eq_false hb0
        refine q_when (b := decide (k' = 1)) (et_is (et_test (ev_op (ev_var rfl) ev_c rv_eqI)) (by rw [decide_eq_decide]; omega)) (fun _ H5 e5 => ?_) fun hb1 H5 e5 => ?_
        · have hp5 := e5 _ _ (e4 _ _ hp3)
          refine ret_tup2 ?_
          refine top_open ?_
          refine (el_lst (vs := nms.map fun l => V.str (S l)) (ea_cons (ev_cS (l := lit "stem") rfl) (ea_cons (ev_cS (l := lit "a") rfl) (ea_cons (ev_cS (l := lit "b_2") rfl) (ea_cons (ev_cS (l := lit "abcdefghijkl") rfl) ea_nil)))) (by show 4 ≤ 100000; decide)) H5 (Ex.refl H5) _ fun lp H6 nlp e6 hlp => ?_
          refine take_run (L := 4) (ev_var rfl) ev_c (e6 _ _ hp5) (by decide) fun m ns2 H7 hm hp7 k7 => ?_
          obtain ⟨g1, g2⟩ := nms_get hm
          have hlp7 := k7 _ _ hlp (fun z => by rw [z] at nlp; rw [hp5] at nlp; cases nlp)
          refine ⟨lp, _, (m : Int), _, rfl, rfl, sq_of hlp7, atI_nat g1, (by show 2 ≤ sizeLine; decide), fun t nt => ?_⟩
          have kC : Kp H (upd H7 t (.tup [.str (Str.ofString "name"), .str (S (nms.getD m []))])) p := fun b o hb hne => (Ex.new nt) _ _ (k7 _ _ (e6 _ _ (e5 _ _ (e4 _ _ (kB _ _ hb hne)))) hne)
          exact q _ (nameD (nms.getD m []), nms.getD m [], [(kWrd, nms.getD m [])]) ns2 _ (.inr (.inl ⟨_, g2, rfl⟩)) (not_join _ [] []).2.1 ((Ex.new nt) _ _ hp7) kC (.tup upd_same (.cons (by rw [litS]; exact .str _) (.cons (.str _) .nil)))
        · have hb1 := of_decide_eq_false hb1
          have hd1 : 1 ≤ dp := by
            by_cases hz : dp = 0
            · have := hk0 hz; omega
            · omega
          have hp5 := e5 _ _ (e4 _ _ hp3)
          refine q_asgL (el_lst (vs := funT.map fun x => V.str (S x.1)) (ea_cons (ev_cS (l := lit "read") rfl) (ea_cons (ev_cS (l := lit "has") rfl) (ea_cons (ev_cS (l := lit "list") rfl) (ea_cons (ev_cS (l := lit "setting") rfl) (ea_cons (ev_cS (l := lit "same") rfl) (ea_cons (ev_cS (l := lit "not") rfl) (ea_cons (ev_cS (l := lit "upper") rfl) (ea_cons (ev_cS (l := lit "count") rfl) (ea_cons (ev_cS (l := lit "sort") rfl) (ea_cons (ev_cS (l := lit "first") rfl) (ea_cons (ev_cS (l := lit "rest") rfl) (ea_cons (ev_cS (l := lit "join") rfl) (ea_cons (ev_cS (l := lit "swap") rfl) ea_nil))))))))))))) (by show 13 ≤ 100000; decide)) fun l1 H6 n1 e6 hl1 => ?_
          refine q_asgL (el_lst (vs := funT.map fun x => V.int (x.2 : Int)) (ea_cons ev_c (ea_cons ev_c (ea_cons ev_c (ea_cons ev_c (ea_cons ev_c (ea_cons ev_c (ea_cons ev_c (ea_cons ev_c (ea_cons ev_c (ea_cons ev_c (ea_cons ev_c (ea_cons ev_c (ea_cons ev_c ea_nil))))))))))))) (by show 13 ≤ 100000; decide)) fun l2 H7 n2 e7 hl2 => ?_
          have hp7 := e7 _ _ (e6 _ _ hp5)
          refine q_asgC (ea_cons (ev_var rfl) (ea_cons ev_c ea_nil)) fun H8 e8 => ⟨p, ns1, 13, rfl, e8 _ _ hp7, by decide, fun w ns2 H9 hw hp9 k9 => ?_⟩
          try unfold gName
          dsimp only
          have hl1' := k9 _ _ (e8 _ _ (e7 _ _ hl1)) (fun z => by rw [z] at n1; rw [hp5] at n1; cases n1)
          have hl2' := k9 _ _ (e8 _ _ hl2) (fun z => by rw [z] at n2; rw [e6 _ _ hp5] at n2; cases n2)
          obtain ⟨g1, g2⟩ := fun_get hw
          obtain ⟨fm, fa⟩ := fun_ix _ hw
          have fw := fun_words _ fm
          generalize funT.getD w ([], 0) = F0 at g1 g2 fm fa fw
          refine ret_tup3 ?_
          refine top_open ?_
          refine ⟨_, rfl, _, rfl, l1, _, (w : Int), _, rfl, rfl, sq_of hl1', atI_nat g1, ?_⟩
          refine tcb_open ?_
          refine tcons1 ?_
          refine lc_open ?_
          refine tcons1 ?_
          refine top_open ?_
          refine ⟨_, rfl, _, rfl, l2, _, (w : Int), _, rfl, rfl, sq_of hl2', atI_nat g2, ⟨(F0.2 : Int), rfl, by omega, by omega, ?_⟩⟩
          refine lc_elems (n := F0.2) (Pr := fun x => WF (2 * dp) (dp - 1) x) (by omega) hp9 (fun _ => rfl) (fun x hx => wf_noL _ _ _ hx) (fun i H10 ns3 hp10 Q' q' => ?_) fun D acc xs ns3 H10 hD hac hda hxl hPr hp10 k10 => ?_
          · refine tcall_open ?_
            exact (ea_cons (ev_var rfl) (ea_cons (ev_op (ev_var rfl) ev_c rv_I0) ea_nil)) H10 (Ex.refl H10) _ fun H11 e11 => ⟨p, ns3, dp - 1, by rw [Int.natCast_sub hd1]; rfl, by omega, e11 _ _ hp10, fun v x ns4 H12 hx hp12 k12 hdt => q' v x ns4 H12 (by rw [show 2 * dp = 2 * (dp - 1) + 2 by omega]; exact hx) hp12 ((Ex.kp e11).trans k12) hdt⟩
          · refine ⟨D, acc, rfl, .inl ⟨sq_of hac, fun t nt => ⟨(by show 3 ≤ sizeLine; decide), fun u nu => ?_⟩⟩⟩
            have ee := (Ex.new (o := .tup acc) nt).trans (Ex.new (o := .tup [.str (Str.ofString "call"), .str (S F0.1), .ref t]) nu)
            have kC : Kp H _ p := fun b o hb hne => ee _ _ (k10 _ _ (k9 _ _ (e8 _ _ (e7 _ _ (e6 _ _ (e5 _ _ (e4 _ _ (kB _ _ hb hne)))))) hne) hne)
            exact q _ (callD F0.1 (xs.map fun x : Xp => x.1), F0.1 ++ ([40] ++ (TL.joinL [44, 32] (xs.map fun x : Xp => x.2.1) ++ [41])), (kWrd, F0.1) :: sig 40 :: (sepK [sig 44] (xs.map fun x : Xp => x.2.2) ++ [sig 41])) ns3 _ (.inr (.inr (.inl ⟨F0.1, F0.2, dp - 1, xs, by omega, fa, hxl, hPr, rfl⟩))) (not_join [] F0.1 _).2.2 (ee _ _ hp10) kC (.tup upd_same (.cons (by rw [litS]; exact .str _) (.cons (.str _) (.cons (.tup (Ex.new nu _ _ upd_same) (hda.mono ee)) .nil))))
theorem ret_call {σ : L2.St} {H : Hp} {D : Ends} {ta : TA} {sp : Sp} {E : XK} (h : ta σ H fun vs H1 => sp (vs ++ []) H1 D.rt E) : tRet (tCall sp [] E ta) D σ H := h
theorem tcons_c {σ : L2.St} {H : Hp} {v : V} {ta : TA} {R : List V → Hp → Prop} (h : ta σ H fun vs H1 => R (v :: vs) H1) : tCons (tC v) ta σ H R := h
theorem top_l {σ : L2.St} {H : Hp} {v : V} {tb : TE} {r : R2} {Q : VK} (h : tb σ H fun y H2 => r v y H2 Q) : tOp r (tC v) tb σ H Q := h
theorem top_r {σ : L2.St} {H : Hp} {v : V} {ta : TE} {r : R2} {Q : VK} (h : ta σ H fun x H2 => r x v H2 Q) : tOp r ta (tC v) σ H Q := h
theorem ok__law_expression {f : Addr} {fd : FuncData} {lv n : Nat} (F : Fun K "_law_expression" "_law_expression" s__law_expression f fd) (T : Tx mg) (G : Gx K mg) (C__law_take : Kn.Cl P w K mg base 1 "_law_take" (sp__law_take K)) (C__law_term : Kn.Cl P w K mg base (lv + 2) "_law_term" (sp__law_term K n)) : FnOk P w K mg base CX0 (lv + 3) f fd ["numbers", "depth"] (sp__law_expression K (n + 1)) := by
  refine F.ok sc__law_expression (fun vs H Q E h => ?_) (fun cdv A outer s H vs Q E hr h => ?_)
  · obtain ⟨p, ns, dp, rfl, _⟩ := h
    rfl
  · obtain ⟨p, ns, dp, rfl, hdp, hp, q⟩ := h
    refine ⟨_, (pss_cons (ps_set (i := 2) sc__law_expression.nd rfl (Or.inl rfl) (pe_op op_add pe_int (pe_callB (Kn.cr_max2 rfl) (by rfl) T.b_max (by decide +kernel) (pa_cons pe_int (pa_cons (pe_op op_sub (Kn.pe_cl C__law_take hr (by omega) (by rfl) (pa_cons (pv 0) (pa_cons pe_int pa_nil))) pe_int) pa_nil)))))
      (pss_cons (ps_if (pt_cmpR op_eq (pv 2) pe_int (nomark _)) (pss_one (ps_ret (Kn.pe_cl C__law_term hr (by omega) (by rfl) (pa_cons (pv 0) (pa_cons (pv 1) pa_nil))))) pss_nil)
      (pss_one (ps_ret (pe_tup (pa_cons pe_str (pa_cons (pe_callTy call_tuple_of (by rfl) T.b_tuple (by decide +kernel) (pa_cons (pe_lc (own := [("k", 3)]) rfl sc__law_expression.nd (pi_range1 rfl T.b_range (pa_cons (pv 2) pa_nil)) (blkOk_by (own := [("k", 3)]) (N := N__law_expression) (sc := defScope s__law_expression) (by decide +kernel)) (fun _ _ _ _ _ => pg_name (i := 3) sc__law_expression.nd rfl (Or.inl rfl)) (fun _ _ _ _ _ => pts_nil) (fun _ _ _ _ _ => (Kn.pe_cl C__law_term hr (by omega) (by rfl) (pa_cons (pv 0) (pa_cons (pv 1) pa_nil))))) pa_nil)) pa_nil))))))), ?_⟩
    refine q_asgOf ?_
    refine top_l ?_
    refine tcb_open ?_
    refine tcons_c ?_
    refine tcons1 ?_
    refine top_r ?_
    refine take_run (L := 5) (ev_var rfl) ev_c hp (by decide) fun m ns1 H1 hm hp1 k1 => ?_
    refine ⟨(m : Int), 2, rfl, rfl, 0, (m : Int) - 2, rfl, 1, (if (m : Int) - 2 > 0 then (m : Int) - 2 else 0), rfl, rfl, ?_⟩
    obtain ⟨c, hc, hc3⟩ : ∃ c : Nat, 1 + (if (m : Int) - 2 > 0 then (m : Int) - 2 else 0) = ((c + 1 : Nat) : Int) ∧ c < 3 := by
      by_cases hz : (m : Int) - 2 > 0
      · rw [if_pos hz]
        exact ⟨m - 2, by omega, by omega⟩
      · rw [if_neg hz]
        exact ⟨0, by omega, by omega⟩
    dsimp only
    rw [hc]
    try unfold gName
    try dsimp only
    refine q_when (b := decide (c = 0)) (et_is (et_test (ev_op (ev_var rfl) ev_c rv_eqI)) (by rw [decide_eq_decide]; omega)) (fun _ H2 e2 => ?_) fun hb H2 e2 => ?_
    · refine ret_call ?_
      exact (ea_cons (ev_var rfl) (ea_cons (ev_var rfl) ea_nil)) H2 (Ex.refl H2) _ fun H3 e3 => ⟨p, ns1, dp, rfl, by omega, e3 _ _ (e2 _ _ hp1), fun v x ns2 H4 hx hj hp4 k4 hdt => q v x ns2 H4 (WF.up _ _ _ hx) hp4 ((k1.trans (Ex.kp (e2.trans e3))).trans k4) hdt⟩
    · have hb := of_decide_eq_false hb
      refine ret_tup2 ?_
      refine tcb_open ?_
      refine tcons1 ?_
      refine lc_open ?_
      refine tcons1 ?_
      refine ⟨_, rfl, ((c + 1 : Nat) : Int), rfl, by omega, by omega, ?_⟩
      refine lc_elems (n := c + 1) (Pr := fun x => WF (2 * dp + 1) dp x ∧ ¬ isJoin x.1) (by omega) (e2 _ _ hp1) (fun _ => rfl) (fun x hx => wf_noL _ _ _ hx.1) (fun i H10 ns3 hp10 Q' q' => ?_) fun D acc xs ns3 H10 hD hac hda hxl hPr hp10 k10 => ?_
      · refine tcall_open ?_
        exact (ea_cons (ev_var rfl) (ea_cons (ev_var rfl) ea_nil)) H10 (Ex.refl H10) _ fun H11 e11 => ⟨p, ns3, dp, rfl, by omega, e11 _ _ hp10, fun v x ns4 H12 hx hj hp12 k12 hdt => q' v x ns4 H12 ⟨hx, hj⟩ hp12 ((Ex.kp e11).trans k12) hdt⟩
      · refine ⟨D, acc, rfl, .inl ⟨sq_of hac, fun t nt => ⟨(by show 2 ≤ sizeLine; decide), fun u nu => ?_⟩⟩⟩
        have ee := (Ex.new (o := .tup acc) nt).trans (Ex.new (o := .tup [.str (Str.ofString "join"), .ref t]) nu)
        have kC : Kp H _ p := fun b o hb hne => ee _ _ (k10 _ _ (e2 _ _ (k1 _ _ hb hne)) hne)
        exact q _ (joinD (xs.map fun x : Xp => x.1), TL.joinL [32, 43, 32] (xs.map fun x : Xp => x.2.1), sepK [sig 43] (xs.map fun x : Xp => x.2.2)) ns3 _ (.inr (.inr (.inr ⟨xs, by omega, by omega, hPr, rfl⟩))) (ee _ _ hp10) kC (.tup upd_same (.cons (by rw [litS]; exact .str _) (.cons (.tup (Ex.new nu _ _ upd_same) (hda.mono ee)) .nil)))
end

section
variable {P : Program} {w : World} {K : PySem.W.Frag} {mg : Str → Option Value} {base : Heap}
/-! ### the law -/
theorem canLay_tup {ds : List PyData} (h : PyData.canLayAll0 ds = true) : PyData.canLay0 (.tuple ds) = true := h
theorem wf_can : ∀ (r c : Nat) (x : Xp), WF r c x → PyData.canLay0 x.1 = true
  | 0, _, _, h => h.elim
  | r + 1, c, x, h => by
    have ih := wf_can r
    have all : ∀ (c : Nat) (xs : List Xp), (∀ y ∈ xs, WF r c y) → PyData.canLayAll0 (xs.map (·.1)) = true := fun c xs => by
      induction xs with
      | nil => intro _; exact can_nil
      | cons y r2 k => intro h; exact can_cons (ih c y (h y List.mem_cons_self)) (k fun z hz => h z (List.mem_cons_of_mem _ hz))
    have wd : okS (lit "text") = true ∧ okS (lit "name") = true ∧ okS (lit "call") = true ∧ okS (lit "join") = true := by decide +kernel
    rcases h with ⟨l, _, hl, rfl⟩ | ⟨l, hl, rfl⟩ | ⟨w, n, c', xs, _, ha, hn, hx, rfl⟩ | ⟨xs, h2, h3, hx, rfl⟩
    · exact canLay_tup (can_cons (canS wd.1) (can_cons (canS hl) can_nil))
    · exact canLay_tup (can_cons (canS wd.2.1) (can_cons (canS (nms_words l hl).2.1) can_nil))
    · exact canLay_tup (can_cons (canS wd.2.2.1) (can_cons (canS (fun_words _ (arity_fun ha)).2.2.2.1) (can_cons (canLay_tup (all c' xs hx)) can_nil)))
    · exact canLay_tup (can_cons (canS wd.2.2.2) (can_cons (canLay_tup (all c xs fun y hy => (hx y hy).1)) can_nil))
theorem wf_dep : ∀ (r c : Nat) (x : Xp), WF r c x → PyData.depth x.1 ≤ 2 * r
  | 0, _, _, h => h.elim
  | r + 1, c, x, h => by
    have ih := wf_dep r
    have all : ∀ (c : Nat) (xs : List Xp), (∀ y ∈ xs, WF r c y) → PyData.depthAll (xs.map (·.1)) ≤ 2 * r := fun c xs => by
      induction xs with
      | nil => intro _; show PyData.depthAll [] ≤ _; unfold PyData.depthAll; exact Nat.zero_le _
      | cons y r2 k =>
        intro h
        show PyData.depthAll (y.1 :: r2.map (·.1)) ≤ _
        unfold PyData.depthAll
        have h1 := ih c y (h y List.mem_cons_self)
        have h2 := k fun z hz => h z (List.mem_cons_of_mem _ hz)
        omega
    rcases h with ⟨l, _, hl, rfl⟩ | ⟨l, hl, rfl⟩ | ⟨w, n, c', xs, _, ha, hn, hx, rfl⟩ | ⟨xs, h2, h3, hx, rfl⟩
    · show PyData.depth (.tuple [.str _, .str _]) ≤ _
      simp only [PyData.depth, PyData.depthAll]
      omega
    · show PyData.depth (.tuple [.str _, .str _]) ≤ _
      simp only [PyData.depth, PyData.depthAll]
      omega
    · show PyData.depth (.tuple [.str _, .str _, .tuple _]) ≤ _
      have := all c' xs hx
      simp only [PyData.depth, PyData.depthAll]
      omega
    · show PyData.depth (.tuple [.str _, .tuple _]) ≤ _
      have := all c xs fun y hy => (hx y hy).1
      simp only [PyData.depth, PyData.depthAll]
      omega
theorem sh_pair {c : Nat} {x : Xp} (h : WF 8 c x) (n : Nat) : SeqAt.shaped (pairE (x.1, n)) = true := by
  refine shaped_tup (can_cons (wf_can 8 c x h) (can_cons rfl can_nil)) ?_
  have := wf_dep 8 c x h
  simp only [PyData.depth, PyData.depthAll]
  omega
theorem scanG_len {l : List Nat} : ∀ (n a : Nat) (acc ts : List Tok3), scanG l n a acc = .inl ts → ts.length ≤ acc.length + n
  | 0, _, acc, ts, h => by
    unfold scanG at h
    cases h
    exact Nat.le_refl _
  | n + 1, a, acc, ts, h => by
    unfold scanG at h
    split at h
    · split at h
      · have := scanG_len n _ _ ts h
        rw [List.length_append, List.length_singleton] at this
        omega
      · cases h
    · cases h
      omega
theorem scan_len {l : List Nat} {ts : List Tok3} (h : scan l = .inl ts) : ts.length ≤ l.length := by
  unfold scan at h
  split at h
  · cases h
    exact Nat.zero_le _
  · have := scanG_len _ _ _ ts h
    rw [List.length_nil] at this
    omega
theorem dtA_cat {H : Hp} : ∀ {xs : List V} {ds : List PyData} {ys : List V} {es : List PyData}, DtA H xs ds → DtA H ys es → DtA H (xs ++ ys) (ds ++ es)
  | _, _, _, _, .nil, h => h
  | _, _, _, _, .cons h r, k => .cons h (dtA_cat r k)
theorem el_catV {σ : L2.St} {H : Hp} {ta tb : TE} {p : Addr} {xs ys : List V} (h1 : Ev ta σ H (.ref p)) (hp : H p = some (.lst xs)) (h2 : EvL tb σ H ys) (hz : xs.length + ys.length ≤ 100000) : EvL (tOp rCat ta tb) σ H (xs ++ ys) := fun H1 e Q q =>
  h1 H1 e _ fun H2 e2 => h2 H2 (e.trans e2) _ fun b H3 nb e3 hb => ⟨p, b, xs, ys, rfl, rfl, ((e.trans e2).trans e3) _ _ hp, hb, sz_of hz, fun l hl => q _ _ (fresh_back (e2.trans e3) hl) ((e2.trans e3).trans (Ex.new hl)) upd_same⟩
theorem evd_cat {σ : L2.St} {H : Hp} {ta tb : TE} {d1 d2 : List PyData} (h1 : EvD ta σ H (.list d1)) (h2 : EvD tb σ H (.list d2)) (hz : d1.length + d2.length ≤ 100000) : EvD (tOp rCat ta tb) σ H (.list (d1 ++ d2)) := fun H1 e Q q => h1 H1 e _ fun v H2 e2 hv => by
  obtain ⟨p, xs, rfl, hp, hx⟩ := hv.lst_inv
  refine h2 H2 (e.trans e2) _ fun u H3 e3 hu => ?_
  obtain ⟨b, ys, rfl, hb, hy⟩ := hu.lst_inv
  refine ⟨p, b, xs, ys, rfl, rfl, e3 _ _ hp, hb, sz_of (by rw [hx.len, hy.len]; exact hz), fun l hl => q _ _ ((e2.trans e3).trans (Ex.new hl)) (.lst upd_same (dtA_cat ((hx.mono e3).mono (Ex.new hl)) (hy.mono (Ex.new hl))))⟩
theorem tls_of {H : Hp} {v : V} {ts : List Tok3} (h : Dt H v (toksD ts)) (hl : ts.length ≤ 50000) : ∃ p, v = .ref p ∧ TLs H p ts := by
  obtain ⟨a, xs, rfl, ha, hx⟩ := h.lst_inv
  exact ⟨a, rfl, xs, ha, hx, hl⟩
theorem evd_tokC {σ : L2.St} {H : Hp} {k t : List Nat} {n : Nat} {ka ta : Str} (hk : ka.cps.toList = k) (ht : ta.cps.toList = t) : EvD (tTup (tCons (tC (.str ka)) (tCons (tC (.str ta)) (tCons (tC (.int (n : Int))) tNil)))) σ H (tokD (k, t, n)) :=
  evd_tup (eda_cons (evd_cS hk) (eda_cons (evd_cS ht) (eda_cons (evd_int ev_c) eda_nil))) (by show 3 ≤ 100000; decide)
def KSL : List (List Nat) := [lit "abcdefghijkl", lit "a", lit "stem", lit "b_2"]
theorem KSL_nms : ∀ l ∈ nms, l ∈ KSL := by decide +kernel
def longL (ts : List Tok3) : List Tok3 := ([(kWrd, lit "let", 1), (kWrd, lit "x", 5)] ++ ts) ++ [(kWrd, lit "behind", 999)]
theorem read_1 {c : Nat} {x : Xp} (h : WF 8 c x) (hc : c ≤ 3) {ts : List Tok3} (ht : ts.map kt = x.2.2) : exprN ts KSL 7 0 0 = some (.inl (x.1, ts.length)) := by
  have z := (read_wf (ts := ts) (ks := KSL) KSL_nms 8).2 c x h 6 0 0 [] (by omega) (by omega) (by rw [List.append_nil]; exact ht) (by decide) (by decide)
  rw [z, ← ht, List.length_map, Nat.zero_add]
theorem read_2 {c : Nat} {x : Xp} (h : WF 8 c x) (hc : c ≤ 3) {ts : List Tok3} (ht : ts.map kt = x.2.2) : exprN (longL ts) KSL 7 0 2 = some (.inl (x.1, ts.length + 2)) := by
  have kn : kWrd ≠ kSig := by decide +kernel
  have hs : sgnK [kt (kWrd, lit "behind", 999)] = [] := by
    show (if kWrd = kSig then lit "behind" else []) = []
    rw [if_neg kn]
  have z := (read_wf (ts := longL ts) (ks := KSL) KSL_nms 8).2 c x h 6 0 2 [kt (kWrd, lit "behind", 999)] (by omega) (by omega) (by
    unfold longL
    rw [List.map_append, List.map_append, ht]
    rfl) (by rw [hs]; decide) (by rw [hs]; decide)
  rw [z, ← ht, List.length_map, Nat.add_comm]
def sp_law (K : PySem.W.Frag) : Sp := sp2 (fun (a : Addr) (_ : List Int) => [.ref a]) (fun a ns H => SqL K H a (ns.map V.int) ∧ ns.length ≤ 63) (fun _ _ => .bl true)
theorem ok_law {f : Addr} {fd : FuncData} (F : Fun K "law" "law" s_law f fd) (T : Tx mg) (G : Gx K mg) (C__law_draws : Kn.Cl P w K mg base 1 "_law_draws" (sp__law_draws K)) (C__law_cell : Kn.Cl P w K mg base 1 "_law_cell" (sp__law_cell K)) (C__law_expression : Kn.Cl P w K mg base 9 "_law_expression" (sp__law_expression K 4)) (C_format_expression : Kn.Cl P w K mg base 9 "format_expression" (sp_format_expression K 8)) (C__law_written : Kn.Cl P w K mg base 9 "_law_written" (sp__law_written K 8)) (C_scan_line : Kn.ClX P w K mg base 6 "scan_line" (sp_scan_line G)) (C_parse_expression : Kn.ClX P w K mg base 27 "parse_expression" (sp_parse_expression G)) : FnOk P w K mg base CX0 29 f fd ["script"] (sp_law K) := by
  refine F.ok sc_law (fun vs H Q E h => ?_) (fun cdv A outer s H vs Q E hr h => ?_)
  · obtain ⟨a, ns, rfl, _⟩ := h
    rfl
  · obtain ⟨a, ns, rfl, ⟨hS, hl⟩, q⟩ := h
    refine ⟨_, (pss_cons (ps_setLc (i := 1) (own := [("cell", 8)]) rfl sc_law.nd rfl rfl (sw_true rfl rfl rfl (by decide +kernel)) (pi_list (pe_slice sl_list (pv 0) (po_some pe_int) (po_some pe_int))) (blkOk_by (own := [("cell", 8)]) (N := N_law) (sc := defScope s_law) (by decide +kernel)) (fun _ _ _ _ _ => pg_name (i := 8) sc_law.nd rfl (Or.inl rfl)) (fun _ _ _ _ _ => pts_nil) (fun _ _ _ _ _ => (pe_op op_fdiv (pe_callB Kn.cr_abs (by rfl) T.b_abs (by decide +kernel) (pa_cons (pe_callTy Kn.cr_int1 (by rfl) T.b_int (by decide +kernel) (pa_cons (pv 8) pa_nil)) pa_nil)) pe_int)))
      (pss_cons (ps_set (i := 1) sc_law.nd rfl (Or.inl rfl) (pe_op op_cat (pv 1) (Kn.pe_cl C__law_draws hr (by decide) (by rfl) (pa_cons (Kn.pe_cl C__law_cell hr (by decide) (by rfl) (pa_cons (pv 0) (pa_cons pe_int pa_nil))) (pa_cons pe_int (pa_cons pe_int pa_nil))))))
      (pss_cons (ps_set (i := 2) sc_law.nd rfl (Or.inl rfl) (Kn.pe_cl C__law_expression hr (by decide) (by rfl) (pa_cons (pv 1) (pa_cons (pe_op op_add pe_int (pe_op op_mod (pe_callB Kn.cr_abs (by rfl) T.b_abs (by decide +kernel) (pa_cons (Kn.pe_cl C__law_cell hr (by decide) (by rfl) (pa_cons (pv 0) (pa_cons pe_int pa_nil))) pa_nil)) pe_int)) pa_nil))))
      (pss_cons (ps_set (i := 3) sc_law.nd rfl (Or.inl rfl) (Kn.pe_cl C_format_expression hr (by decide) (by rfl) (pa_cons (pv 2) pa_nil)))
      (pss_cons (ps_if (PW.pt (pw_or (pt_not (pt_val (pe_callB Kn.cr_isi (by rfl) T.b_isinstance (by decide +kernel) (pa_cons (pv 3) (pa_cons (pe_bltn (v := .ty "str") (by rfl) T.b_str (by decide +kernel) rfl) pa_nil))))) (pw_or1 (pt_cmpR op_ne (pv 3) (Kn.pe_cl C__law_written hr (by decide) (by rfl) (pa_cons (pv 2) pa_nil)) (nomark _))))) (pss_one (ps_ret pe_bl)) pss_nil)
      (pss_cons (ps_set (i := 4) sc_law.nd rfl (Or.inl rfl) (pe_lst (pa_cons pe_str (pa_cons pe_str (pa_cons pe_str (pa_cons pe_str pa_nil))))))
      (pss_cons (ps_set (i := 5) sc_law.nd rfl (Or.inl rfl) (Kn.pe_clX C_scan_line hr (by decide) (by rfl) takes0 (pa_cons pe_str (pa_cons pe_int (pa_cons (pv 3) pa_nil)))))
      (pss_cons (ps_if (pt_cmpR (op_neD hr.units) (Kn.pe_clX C_parse_expression hr (by decide) (by rfl) takes0 (pa_cons (pv 5) (pa_cons pe_int (pa_cons (pv 4) pa_nil)))) (pe_tup (pa_cons (pv 2) (pa_cons (pe_callB Kn.cr_lenSeq (by rfl) T.b_len PySem.boot_len (pa_cons (pv 5) pa_nil)) pa_nil))) (nomark _)) (pss_one (ps_ret pe_bl)) pss_nil)
      (pss_cons (ps_set (i := 6) sc_law.nd rfl (Or.inl rfl) (pe_op op_cat (pe_op op_cat (pe_lst (pa_cons (pe_tup (pa_cons pe_str (pa_cons pe_str (pa_cons pe_int pa_nil)))) (pa_cons (pe_tup (pa_cons pe_str (pa_cons pe_str (pa_cons pe_int pa_nil)))) pa_nil))) (pv 5)) (pe_lst (pa_cons (pe_tup (pa_cons pe_str (pa_cons pe_str (pa_cons pe_int pa_nil)))) pa_nil))))
      (pss_cons (ps_set (i := 7) sc_law.nd rfl (Or.inl rfl) (Kn.pe_clX C_parse_expression hr (by decide) (by rfl) takes0 (pa_cons (pv 6) (pa_cons pe_int (pa_cons (pv 4) pa_nil)))))
      (pss_cons (ps_if (PW.pt (pw_or (pt_cmpR (op_neD hr.units) (pv 7) (pe_tup (pa_cons (pv 2) (pa_cons (pe_op op_add (pe_callB Kn.cr_lenSeq (by rfl) T.b_len PySem.boot_len (pa_cons (pv 5) pa_nil)) pe_int) pa_nil))) (nomark _)) (pw_or1 (pt_not (pt_val (pe_callB Kn.cr_isi (by rfl) T.b_isinstance (by decide +kernel) (pa_cons (pv 7) (pa_cons (pe_bltn (v := .ty "tuple") (by rfl) T.b_tuple (by decide +kernel) rfl) pa_nil)))))))) (pss_one (ps_ret pe_bl)) pss_nil)
      (pss_one (ps_ret (pe_and (pe_cmpR (op_eqD hr.units) (pv 4) (pe_lst (pa_cons pe_str (pa_cons pe_str (pa_cons pe_str (pa_cons pe_str pa_nil))))) (nomark _)) (pe_one (pe_cmpR op_eq (pe_callB Kn.cr_lenSeq (by rfl) T.b_len PySem.boot_len (pa_cons (pv 6) pa_nil)) (pe_op op_add (pe_callB Kn.cr_lenSeq (by rfl) T.b_len PySem.boot_len (pa_cons (pv 5) pa_nil)) pe_int) (nomark _))))))))))))))))), ?_⟩
    have hcs : ((ns.drop 1).take 61).length ≤ 61 := by rw [List.length_take]; omega
    refine q_asgL (xs := ((ns.drop 1).take 61).map fun n => V.int ((n.natAbs / 2 : Nat) : Int)) ?_ fun p1 H1 n1 e1 hp1 => ?_
    · refine el_lcN (g := V.int) (el_slN (ev_var rfl) (eo_some ev_c) (eo_some ev_c) hS 1 62 rfl rfl) (by omega) (fun _ => rfl) fun n hn H2 e2 => ?_
      exact ev_div (m := 2) (ev_cb (ea_cons (ev_cb (ea_cons (ev_var rfl) ea_nil) rc_int) ea_nil) rc_abs) rfl (by decide)
    obtain ⟨ds, hdl, hds⟩ := draws_nat (L2.cellOf ns 0) 4940 (by decide) 40
    refine q_asgL (el_catV (ev_var rfl) hp1 (el_c3 (a := L2.cellOf ns 0) (b := (40 : Int)) (c := (4940 : Int)) (ea_cons (ev_c3 (a := a) (b := ns) (c := 0) (ea_cons (ev_var rfl) (ea_cons ev_c ea_nil)) fun H2 e2 => ex_l (e1.trans e2) hS) (ea_cons ev_c (ea_cons ev_c ea_nil))) fun _ _ => ⟨by decide, by decide, by decide⟩) (by rw [List.length_map, List.length_map, drawsTo_len]; show _ + 40 ≤ 100000; omega)) fun p H2 n2 e2 hp => ?_
    have hp' : H2 p = some (.lst (natV (((ns.drop 1).take 61).map (fun n => n.natAbs / 2) ++ ds))) := by
      rw [hp]
      refine congrArg (fun z => some (HO.lst z)) ?_
      unfold natV
      rw [List.map_append, List.map_map]
      exact congrArg (_ ++ ·) hds
    generalize ((ns.drop 1).take 61).map (fun n => n.natAbs / 2) ++ ds = nums at hp'
    refine q_asgC (ea_cons (ev_var rfl) (ea_cons (ev_is (ev_op ev_c (ev_mod (m := 3) (ev_cellA (c := 62) (ea_cons (ev_var rfl) (ea_cons ev_c ea_nil)) (ex_l (e1.trans e2) hS)) rfl (by decide)) rv_I0) (show _ = V.int ((1 + (L2.cellOf ns 62).natAbs % 3 : Nat) : Int) by rw [Int.natCast_add]; rfl)) ea_nil)) fun H3 e3 => ⟨p, nums, 1 + (L2.cellOf ns 62).natAbs % 3, rfl, by omega, e3 _ _ hp', fun v x ns' H4 hx hp4 k4 hv => ?_⟩
    have hdp : 1 + (L2.cellOf ns 62).natAbs % 3 ≤ 3 := by omega
    generalize 1 + (L2.cellOf ns 62).natAbs % 3 = c at hx hdp
    have hx : WF 8 c x := by
      have z := hx.ups (8 - (2 * c + 2))
      rw [show 2 * c + 2 + (8 - (2 * c + 2)) = 8 by omega] at z
      exact z
    have e04 : Ex H H4 := fun b o hb => k4 b o (e3 _ _ (e2 _ _ (e1 _ _ hb))) (ne_of_none (e1 _ _ hb) n2)
    try unfold gName
    dsimp only
    refine q_asg (v := .str (S x.2.1)) (ev_call (dvs := []) (ea_cons (ev_var rfl) ea_nil) fun H5 e5 Q q E => ⟨v, c, x, rfl, hx, by decide, hv.mono e5, q⟩) fun H5 e5 => ?_
    have hv5 := hv.mono e5
    refine q_when (b := false) (et_or (a := false) (b := false) (et_not (a := true) (et_B (ev_isiS (ev_var rfl)))) fun _ => et_is (et_test (ev_op (ev_var rfl) (ev_call (z := .str (S x.2.1)) (dvs := []) (ea_cons (ev_var rfl) ea_nil) fun H6 e6 Q q E => ⟨v, c, x, rfl, hx, by decide, hv5.mono e6, q⟩) rv_neS)) (by rw [decide_eq_true rfl]; rfl)) (fun hz => nomatch hz) fun _ H6 e6 => ?_
    refine q_asgL (el_lst (vs := KSL.map fun l => V.str (S l)) (ea_cons (ev_cS (l := lit "abcdefghijkl") rfl) (ea_cons (ev_cS (l := lit "a") rfl) (ea_cons (ev_cS (l := lit "stem") rfl) (ea_cons (ev_cS (l := lit "b_2") rfl) ea_nil)))) (by show 4 ≤ 100000; decide)) fun pk H7 n7 e7 hpk => ?_
    have hK : KnL H7 pk KSL := ⟨hpk, by decide⟩
    have hll := wf_len 8 c x hx
    rw [LB8] at hll
    obtain ⟨ts, hscan, hts⟩ := sc_line (wf_sc 8 c x hx) (fun c' q' hq' => by
      obtain ⟨a', q2, h1, h2⟩ := (wf_head 8 c x hx).1
      rw [h1] at hq'
      injection hq' with z1 z2
      rw [← z1]
      exact h2)
    have htl := scan_len hscan
    refine q_asgD (d := toksD ts) (evd_callS (vs := [.str (S [97]), .int ((1 : Nat) : Int), .str (S x.2.1)]) (ea_cons (ev_cS (l := [97]) rfl) (ea_cons (ev_c (v := .int ((1 : Nat) : Int))) (ea_cons (ev_var rfl) ea_nil))) fun H8 e8 Q2 q2 => ⟨[97], x.2.1, 1, rfl, ⟨by decide, by omega, by decide, by decide⟩, fun y hy => ?_, fun c why hy => ?_⟩) fun v8 H8 e8 hv8 => ?_
    · rw [hscan] at hy
      cases hy
      exact q2
    · rw [hscan] at hy
      cases hy
    obtain ⟨p8, rfl, hT8⟩ := tls_of hv8 (by omega)
    obtain ⟨w8, hw8, _, _⟩ := id hT8
    have hw8l : w8.length = ts.length := by
      obtain ⟨a8, ys8, ha8, hb8, hc8⟩ := hv8.lst_inv
      cases ha8
      rw [hb8] at hw8
      cases hw8
      rw [hc8.len, List.length_map]
    have hv58 := hv5.mono ((e6.trans e7).trans e8)
    have hK8 := hK.mono e8
    have sh1 := sh_pair hx ts.length
    refine q_when (b := false) (et_is (et_test (ev_neD (d := pairE (x.1, ts.length)) (e' := pairE (x.1, ts.length)) (evd_callS (ea_cons (ev_var rfl) (ea_cons (ev_c (v := .int ((0 : Nat) : Int))) (ea_cons (ev_var rfl) ea_nil))) fun H9 e9 Q2 q2 => ⟨p8, pk, ts, KSL, 0, _, rfl, hT8.mono e9, hK8.mono e9, read_1 hx hdp hts, fun d b hr1 => ?_, fun c why hr1 => ?_⟩) (evd_tup (eda_cons (evd_of (ev_var rfl) hv58) (eda_cons (evd_int (ev_is (ev_len (ev_var rfl) (sq_of hw8)) (by rw [hw8l]))) eda_nil)) (by show 2 ≤ 100000; decide)) sh1 sh1)) (by rw [eqv_self sh1]; rfl)) (fun hz => nomatch hz) fun _ H9 e9 => ?_
    · cases hr1
      exact q2
    · cases hr1
    have hv9 := hv58.mono e9
    have hw9 := e9 _ _ hw8
    refine q_asgD (d := toksD (longL ts)) (evd_is (evd_cat (d1 := ([(kWrd, lit "let", 1), (kWrd, lit "x", 5)] : List Tok3).map tokD ++ ts.map tokD) (d2 := [tokD (kWrd, lit "behind", 999)]) (evd_cat (d1 := ([(kWrd, lit "let", 1), (kWrd, lit "x", 5)] : List Tok3).map tokD) (d2 := ts.map tokD) (evd_lst (eda_cons (evd_tokC (n := 1) rfl rfl) (eda_cons (evd_tokC (n := 5) rfl rfl) eda_nil)) (by show 2 ≤ 100000; decide)) (evd_of (ev_var rfl) (hv8.mono e9)) (by rw [List.length_map, List.length_map]; show 2 + _ ≤ 100000; omega)) (evd_lst (eda_cons (evd_tokC (n := 999) rfl rfl) eda_nil) (by show 1 ≤ 100000; decide)) (by rw [List.length_append, List.length_map, List.length_map]; show 2 + _ + 1 ≤ 100000; omega)) (by unfold toksD longL; rw [List.map_append, List.map_append]; rfl)) fun v10 H10 e10 hv10 => ?_
    have hlong : (longL ts).length = ts.length + 3 := by
      unfold longL
      rw [List.length_append, List.length_append]
      show 2 + _ + 1 = _
      omega
    obtain ⟨p10, rfl, hT10⟩ := tls_of hv10 (by omega)
    obtain ⟨w10, hw10, _, _⟩ := id hT10
    have hw10l : w10.length = ts.length + 3 := by
      obtain ⟨a8, ys8, ha8, hb8, hc8⟩ := hv10.lst_inv
      cases ha8
      rw [hb8] at hw10
      cases hw10
      rw [hc8.len, List.length_map, hlong]
    have sh2 := sh_pair hx (ts.length + 2)
    have hK10 := hK8.mono (e9.trans e10)
    refine q_asgD (d := pairE (x.1, ts.length + 2)) (evd_callS (ea_cons (ev_var rfl) (ea_cons (ev_c (v := .int ((2 : Nat) : Int))) (ea_cons (ev_var rfl) ea_nil))) fun H11 e11 Q2 q2 => ⟨p10, pk, longL ts, KSL, 2, _, rfl, hT10.mono e11, hK10.mono e11, read_2 hx hdp hts, fun d b hr1 => ?_, fun c why hr1 => ?_⟩) fun v11 H11 e11 hv11 => ?_
    · cases hr1
      exact q2
    · cases hr1
    have hw11 := e11 _ _ (e10 _ _ hw9)
    obtain ⟨p11, z11, rfl, hp11, _⟩ := pairE_inv hv11
    refine q_when (b := false) (et_or (a := false) (b := false) (et_is (et_test (ev_neD (d := pairE (x.1, ts.length + 2)) (e' := pairE (x.1, ts.length + 2)) (evd_of (ev_var rfl) hv11) (evd_tup (eda_cons (evd_of (ev_var rfl) (hv9.mono (e10.trans e11))) (eda_cons (evd_int (ev_is (ev_op (ev_is (ev_len (ev_var rfl) (sq_of hw11)) (by rw [hw8l])) ev_c rv_I0) (show _ = V.int ((ts.length + 2 : Nat) : Int) by rw [Int.natCast_add]; rfl))) eda_nil)) (by show 2 ≤ 100000; decide)) sh2 sh2)) (by rw [eqv_self sh2]; rfl)) fun _ => et_not (a := true) (et_B (ev_isi (T := "tuple") (ev_var rfl) (.base (.tup hp11)) (by decide +kernel) fun _ e => .base (.tup (e _ _ hp11))))) (fun hz => nomatch hz) fun _ H12 e12 => ?_
    have eall : Ex H H12 := ((((((((e04.trans e5).trans e6).trans e7).trans e8).trans e9).trans e10).trans e11).trans e12)
    have hpk12 := e12 _ _ (e11 _ _ (e10 _ _ (e9 _ _ (e8 _ _ hpk))))
    have dK : Dt H12 (.ref pk) (.list (KSL.map fun l => .str (S l))) := .lst hpk12 (.cons (.str _) (.cons (.str _) (.cons (.str _) (.cons (.str _) .nil))))
    have sK : SeqAt.shaped (.list (KSL.map fun l => .str (S l))) = true := by decide +kernel
    have hw12 := e12 _ _ hw11
    have hx12 := e12 _ _ (e11 _ _ hw10)
    refine s_ret (v := .bl true) (ev_andV (a := true) (b := true) (ev_is (ev_eqD (e' := .list (KSL.map fun l => .str (S l))) (evd_of (ev_var rfl) dK) (evd_lst (eda_cons (evd_cS (l := lit "abcdefghijkl") rfl) (eda_cons (evd_cS (l := lit "a") rfl) (eda_cons (evd_cS (l := lit "stem") rfl) (eda_cons (evd_cS (l := lit "b_2") rfl) eda_nil)))) (by show 4 ≤ 100000; decide)) sK sK) (congrArg V.bl (eqv_self sK))) fun _ => ?_) fun H13 e13 => q H13 (eall.trans e13)
    refine ev_is (ev_op (ev_len (ev_var rfl) (sq_of hx12)) (ev_op (ev_len (ev_var rfl) (sq_of hw12)) ev_c rv_I0) rv_eqI) ?_
    refine congrArg V.bl (decide_eq_true ?_)
    rw [hw10l, hw8l]
    omega
end

theorem all_mk {l : PySem.W.OpenLaw} {w : World} {K : PySem.W.Frag} {h : Heap} {mg : Str → Option Value} {fa : Addr} (X : K.In h) (G : h.Ns mainGlobals mg) (hfa : mg "law" = some (.ref fa))
    {f0 f1 f2 f3 f4 f5 f6 f7 f8 f9 f10 f11 f12 f13 f14 f15 f16 f17 f18 f19 f20 f21 f22 f23 f24 f25 : Addr} {od0 od1 od2 od3 od4 od5 od6 od7 od8 od9 od10 od11 od12 od13 od14 od15 od16 od17 od18 od19 od20 od21 od22 od23 od24 od25 an0 an1 an2 an3 an4 an5 an6 an7 an8 an9 an10 an11 an12 an13 an14 an15 an16 an17 an18 an19 an20 an21 an22 an23 an24 an25 : Option Addr} {sl0 sl1 sl2 sl3 sl4 sl5 sl6 sl7 sl8 sl9 sl10 sl11 sl12 sl13 sl14 sl15 sl16 sl17 sl18 sl19 sl20 sl21 sl22 sl23 sl24 sl25 : Array (Option Value)} {oc0 oc1 oc2 oc3 oc4 oc5 oc6 oc7 oc8 oc9 oc10 oc11 oc12 oc13 oc14 oc15 oc16 oc17 oc18 oc19 oc20 oc21 oc22 oc23 oc24 oc25 kV0 kV1 kV2 kV3 kV4 kV5 kV6 kV7 kV8 kV9 kV10 kV11 kV12 kV13 kV14 kV15 kV16 kV17 kV18 kV19 kV20 kV21 kV22 kV23 kV24 kV25 dc0 dc1 dc2 dc3 dc4 dc5 dc6 dc7 dc8 dc9 dc10 dc11 dc12 dc13 dc14 dc15 dc16 dc17 dc18 dc19 dc20 dc21 dc22 dc23 dc24 dc25 pm0 pm1 pm2 pm3 pm4 pm5 pm6 pm7 pm8 pm9 pm10 pm11 pm12 pm13 pm14 pm15 pm16 pm17 pm18 pm19 pm20 pm21 pm22 pm23 pm24 pm25 cd0 cd1 cd2 cd3 cd4 cd5 cd6 cd7 cd8 cd9 cd10 cd11 cd12 cd13 cd14 cd15 cd16 cd17 cd18 cd19 cd20 cd21 cd22 cd23 cd24 cd25 ct0 ct1 ct2 ct3 ct4 ct5 ct6 ct7 ct8 ct9 ct10 ct11 ct12 ct13 ct14 ct15 ct16 ct17 ct18 ct19 ct20 ct21 ct22 ct23 ct24 ct25 : Value}
    {XB : Addr}
    {X_InvalidRecipe N_InvalidRecipe_ : Addr} {nm_InvalidRecipe q_InvalidRecipe : Str} {bs_InvalidRecipe : List Value} {sn_InvalidRecipe : List Str} {sub_InvalidRecipe : List Value} {ab_InvalidRecipe : Bool} {col_InvalidRecipe : Option Bool} {dd_InvalidRecipe : Option Addr} {m0_InvalidRecipe m1_InvalidRecipe m2_InvalidRecipe m3_InvalidRecipe m5_InvalidRecipe : Option Value}
    {X_BadToken N_BadToken_ : Addr} {nm_BadToken q_BadToken : Str} {bs_BadToken : List Value} {sn_BadToken : List Str} {sub_BadToken : List Value} {ab_BadToken : Bool} {col_BadToken : Option Bool} {dd_BadToken : Option Addr} {m0_BadToken m1_BadToken m2_BadToken m3_BadToken m5_BadToken : Option Value}
    {tk_IDENTIFIER_LENGTH tk_LETTERS tk_IDENTIFIER_SIGNS tk_SIGNS tk_QUOTE tk_BACKSLASH tk_WORD_ENDS tk_MOST_CALLS : Tok}
    {D_ESCAPES : Addr} {es_ESCAPES : Array DictEntry} {n_ESCAPES : Nat} {D_FUNCTIONS : Addr} {es_FUNCTIONS : Array DictEntry} {n_FUNCTIONS : Nat}
    (aB : PySem.W.nsIn K mainGlobals "BuildError" = some (some (.ref XB)))
    (bsp : PySem.W.specialIn K (.ref XB) "__getattribute__" = some (some (.builtin "type.__getattribute__")))
    (brd : PySem.W.readsIn K XB (.type "type") = true)
    (bfi : PySem.W.findCls K (.ref XB) (.type "type") "__init__" = some (.val (.builtin "ValueError.__init__")))
    (bhd : PySem.W.hasDictIn K XB = true)
    (bty : PySem.W.typeIn K (.ref XB) = some (.type "type"))
    (xgs : PySem.W.specialIn K (.builtin "object.__class__") "__get__" = some (some (.builtin "getset_descriptor.__get__")))
    (xtk : PySem.W.takesIn K (.builtin "object.__class__") = some true)
    (xa_InvalidRecipe : PySem.W.nsIn K mainGlobals "InvalidRecipe" = some (some (.ref X_InvalidRecipe)))
    (xL_InvalidRecipe : K.lookup X_InvalidRecipe = some (excClassObj nm_InvalidRecipe q_InvalidRecipe X_InvalidRecipe N_InvalidRecipe_ bs_InvalidRecipe [.ref XB, .type "ValueError", .type "Exception", .type "BaseException", .type "object"] true sn_InvalidRecipe sub_InvalidRecipe ab_InvalidRecipe col_InvalidRecipe dd_InvalidRecipe m0_InvalidRecipe m1_InvalidRecipe m2_InvalidRecipe m3_InvalidRecipe m5_InvalidRecipe "ValueError.__new__"))
    (xsa_InvalidRecipe : PySem.W.findIn K (.ref X_InvalidRecipe) "__setattr__" = some (some (.builtin "object.__setattr__")))
    (xex_InvalidRecipe : PySem.W.subIn K (.ref X_InvalidRecipe) (.type "BaseException") = some true)
    (xty_InvalidRecipe : PySem.W.typeIn K (.ref X_InvalidRecipe) = some (.type "type"))
    (xkc_InvalidRecipe : PySem.W.keepIn K (.ref X_InvalidRecipe) = true)
    (xnpath_InvalidRecipe : PySem.W.findIn K (.ref X_InvalidRecipe) "path" = some none)
    (xnline_InvalidRecipe : PySem.W.findIn K (.ref X_InvalidRecipe) "line" = some none)
    (xncolumn_InvalidRecipe : PySem.W.findIn K (.ref X_InvalidRecipe) "column" = some none)
    (xnreason_InvalidRecipe : PySem.W.findIn K (.ref X_InvalidRecipe) "reason" = some none)
    (xga_InvalidRecipe : PySem.W.findIn K (.ref X_InvalidRecipe) "__getattribute__" = some (some (.builtin "BaseException.__getattribute__")))
    (xgg_InvalidRecipe : PySem.W.findIn K (.ref X_InvalidRecipe) "__getattr__" = some none)
    (xhd_InvalidRecipe : PySem.W.hasDictIn K X_InvalidRecipe = true)
    (xcl_InvalidRecipe : PySem.W.findIn K (.ref X_InvalidRecipe) "__class__" = some (some (.builtin "object.__class__")))
    (xmr_InvalidRecipe : PySem.W.mroIn K X_InvalidRecipe (.type "object") = some true)
    (xcc_InvalidRecipe : PySem.W.subIn K (.ref X_InvalidRecipe) (.ref X_InvalidRecipe) = some true)
    (xkB_InvalidRecipe : PySem.W.subIn K (.ref X_InvalidRecipe) (.ref XB) = some true)
    (xa_BadToken : PySem.W.nsIn K mainGlobals "BadToken" = some (some (.ref X_BadToken)))
    (xL_BadToken : K.lookup X_BadToken = some (excClassObj nm_BadToken q_BadToken X_BadToken N_BadToken_ bs_BadToken [.ref XB, .type "ValueError", .type "Exception", .type "BaseException", .type "object"] true sn_BadToken sub_BadToken ab_BadToken col_BadToken dd_BadToken m0_BadToken m1_BadToken m2_BadToken m3_BadToken m5_BadToken "ValueError.__new__"))
    (xsa_BadToken : PySem.W.findIn K (.ref X_BadToken) "__setattr__" = some (some (.builtin "object.__setattr__")))
    (xex_BadToken : PySem.W.subIn K (.ref X_BadToken) (.type "BaseException") = some true)
    (xty_BadToken : PySem.W.typeIn K (.ref X_BadToken) = some (.type "type"))
    (xkc_BadToken : PySem.W.keepIn K (.ref X_BadToken) = true)
    (xncolumn_BadToken : PySem.W.findIn K (.ref X_BadToken) "column" = some none)
    (xnreason_BadToken : PySem.W.findIn K (.ref X_BadToken) "reason" = some none)
    (xga_BadToken : PySem.W.findIn K (.ref X_BadToken) "__getattribute__" = some (some (.builtin "BaseException.__getattribute__")))
    (xgg_BadToken : PySem.W.findIn K (.ref X_BadToken) "__getattr__" = some none)
    (xhd_BadToken : PySem.W.hasDictIn K X_BadToken = true)
    (xcl_BadToken : PySem.W.findIn K (.ref X_BadToken) "__class__" = some (some (.builtin "object.__class__")))
    (xmr_BadToken : PySem.W.mroIn K X_BadToken (.type "object") = some true)
    (xcc_BadToken : PySem.W.subIn K (.ref X_BadToken) (.ref X_BadToken) = some true)
    (xkB_BadToken : PySem.W.subIn K (.ref X_BadToken) (.ref XB) = some true)
    (a0 : PySem.W.findIn K (.ref X_InvalidRecipe) "__init__" = some (some (.ref f0)))
    (i0 : PySem.W.typeIn K (.ref f0) = some (.type "function"))
    (l0 : K.lookup f0 = some ⟨oc0, od0, .func (PySem.W.fnOf "__init__" "InvalidRecipe.__init__" (defArgs s_InvalidRecipe___init__) (defBody s_InvalidRecipe___init__) (defScope s_InvalidRecipe___init__) .none kV0 dc0 pm0 an0 cd0 ct0), sl0⟩)
    (c0 : PySem.W.codeIn K cd0 "InvalidRecipe.__init__" = true)
    (k0 : PySem.W.keepIn K (.ref f0) = true)
    (a1 : PySem.W.findIn K (.ref X_BadToken) "__init__" = some (some (.ref f1)))
    (i1 : PySem.W.typeIn K (.ref f1) = some (.type "function"))
    (l1 : K.lookup f1 = some ⟨oc1, od1, .func (PySem.W.fnOf "__init__" "BadToken.__init__" (defArgs s_BadToken___init__) (defBody s_BadToken___init__) (defScope s_BadToken___init__) .none kV1 dc1 pm1 an1 cd1 ct1), sl1⟩)
    (c1 : PySem.W.codeIn K cd1 "BadToken.__init__" = true)
    (k1 : PySem.W.keepIn K (.ref f1) = true)
    (a2 : PySem.W.nsIn K mainGlobals "_skip_spaces" = some (some (.ref f2)))
    (l2 : K.lookup f2 = some ⟨oc2, od2, .func (PySem.W.fnOf "_skip_spaces" "_skip_spaces" (defArgs s__skip_spaces) (defBody s__skip_spaces) (defScope s__skip_spaces) .none kV2 dc2 pm2 an2 cd2 ct2), sl2⟩)
    (c2 : PySem.W.codeIn K cd2 "_skip_spaces" = true)
    (k2 : PySem.W.keepIn K (.ref f2) = true)
    (a3 : PySem.W.nsIn K mainGlobals "_string_part" = some (some (.ref f3)))
    (l3 : K.lookup f3 = some ⟨oc3, od3, .func (PySem.W.fnOf "_string_part" "_string_part" (defArgs s__string_part) (defBody s__string_part) (defScope s__string_part) .none kV3 dc3 pm3 an3 cd3 ct3), sl3⟩)
    (c3 : PySem.W.codeIn K cd3 "_string_part" = true)
    (k3 : PySem.W.keepIn K (.ref f3) = true)
    (a4 : PySem.W.nsIn K mainGlobals "_string" = some (some (.ref f4)))
    (l4 : K.lookup f4 = some ⟨oc4, od4, .func (PySem.W.fnOf "_string" "_string" (defArgs s__string) (defBody s__string) (defScope s__string) .none kV4 dc4 pm4 an4 cd4 ct4), sl4⟩)
    (c4 : PySem.W.codeIn K cd4 "_string" = true)
    (k4 : PySem.W.keepIn K (.ref f4) = true)
    (a5 : PySem.W.nsIn K mainGlobals "_token" = some (some (.ref f5)))
    (l5 : K.lookup f5 = some ⟨oc5, od5, .func (PySem.W.fnOf "_token" "_token" (defArgs s__token) (defBody s__token) (defScope s__token) .none kV5 dc5 pm5 an5 cd5 ct5), sl5⟩)
    (c5 : PySem.W.codeIn K cd5 "_token" = true)
    (k5 : PySem.W.keepIn K (.ref f5) = true)
    (a6 : PySem.W.nsIn K mainGlobals "scan_line" = some (some (.ref f6)))
    (l6 : K.lookup f6 = some ⟨oc6, od6, .func (PySem.W.fnOf "scan_line" "scan_line" (defArgs s_scan_line) (defBody s_scan_line) (defScope s_scan_line) .none kV6 dc6 pm6 an6 cd6 ct6), sl6⟩)
    (c6 : PySem.W.codeIn K cd6 "scan_line" = true)
    (k6 : PySem.W.keepIn K (.ref f6) = true)
    (a7 : PySem.W.nsIn K mainGlobals "is_identifier" = some (some (.ref f7)))
    (l7 : K.lookup f7 = some ⟨oc7, od7, .func (PySem.W.fnOf "is_identifier" "is_identifier" (defArgs s_is_identifier) (defBody s_is_identifier) (defScope s_is_identifier) .none kV7 dc7 pm7 an7 cd7 ct7), sl7⟩)
    (c7 : PySem.W.codeIn K cd7 "is_identifier" = true)
    (k7 : PySem.W.keepIn K (.ref f7) = true)
    (a8 : PySem.W.nsIn K mainGlobals "_sign" = some (some (.ref f8)))
    (l8 : K.lookup f8 = some ⟨oc8, od8, .func (PySem.W.fnOf "_sign" "_sign" (defArgs s__sign) (defBody s__sign) (defScope s__sign) .none kV8 dc8 pm8 an8 cd8 ct8), sl8⟩)
    (c8 : PySem.W.codeIn K cd8 "_sign" = true)
    (k8 : PySem.W.keepIn K (.ref f8) = true)
    (a9 : PySem.W.nsIn K mainGlobals "_check_there" = some (some (.ref f9)))
    (l9 : K.lookup f9 = some ⟨oc9, od9, .func (PySem.W.fnOf "_check_there" "_check_there" (defArgs s__check_there) (defBody s__check_there) (defScope s__check_there) .none kV9 dc9 pm9 an9 cd9 ct9), sl9⟩)
    (c9 : PySem.W.codeIn K cd9 "_check_there" = true)
    (k9 : PySem.W.keepIn K (.ref f9) = true)
    (a10 : PySem.W.nsIn K mainGlobals "_check_behind" = some (some (.ref f10)))
    (l10 : K.lookup f10 = some ⟨oc10, od10, .func (PySem.W.fnOf "_check_behind" "_check_behind" (defArgs s__check_behind) (defBody s__check_behind) (defScope s__check_behind) .none kV10 dc10 pm10 an10 cd10 ct10), sl10⟩)
    (c10 : PySem.W.codeIn K cd10 "_check_behind" = true)
    (k10 : PySem.W.keepIn K (.ref f10) = true)
    (a11 : PySem.W.nsIn K mainGlobals "format_string" = some (some (.ref f11)))
    (l11 : K.lookup f11 = some ⟨oc11, od11, .func (PySem.W.fnOf "format_string" "format_string" (defArgs s_format_string) (defBody s_format_string) (defScope s_format_string) .none kV11 dc11 pm11 an11 cd11 ct11), sl11⟩)
    (c11 : PySem.W.codeIn K cd11 "format_string" = true)
    (k11 : PySem.W.keepIn K (.ref f11) = true)
    (a12 : PySem.W.nsIn K mainGlobals "_law_cell" = some (some (.ref f12)))
    (l12 : K.lookup f12 = some ⟨oc12, od12, .func (PySem.W.fnOf "_law_cell" "_law_cell" (defArgs s__law_cell) (defBody s__law_cell) (defScope s__law_cell) .none kV12 dc12 pm12 an12 cd12 ct12), sl12⟩)
    (c12 : PySem.W.codeIn K cd12 "_law_cell" = true)
    (k12 : PySem.W.keepIn K (.ref f12) = true)
    (a13 : PySem.W.nsIn K mainGlobals "_law_draws" = some (some (.ref f13)))
    (l13 : K.lookup f13 = some ⟨oc13, od13, .func (PySem.W.fnOf "_law_draws" "_law_draws" (defArgs s__law_draws) (defBody s__law_draws) (defScope s__law_draws) .none kV13 dc13 pm13 an13 cd13 ct13), sl13⟩)
    (c13 : PySem.W.codeIn K cd13 "_law_draws" = true)
    (k13 : PySem.W.keepIn K (.ref f13) = true)
    (a14 : PySem.W.nsIn K mainGlobals "_law_text" = some (some (.ref f14)))
    (l14 : K.lookup f14 = some ⟨oc14, od14, .func (PySem.W.fnOf "_law_text" "_law_text" (defArgs s__law_text) (defBody s__law_text) (defScope s__law_text) .none kV14 dc14 pm14 an14 cd14 ct14), sl14⟩)
    (c14 : PySem.W.codeIn K cd14 "_law_text" = true)
    (k14 : PySem.W.keepIn K (.ref f14) = true)
    (a15 : PySem.W.nsIn K mainGlobals "_law_take" = some (some (.ref f15)))
    (l15 : K.lookup f15 = some ⟨oc15, od15, .func (PySem.W.fnOf "_law_take" "_law_take" (defArgs s__law_take) (defBody s__law_take) (defScope s__law_take) .none kV15 dc15 pm15 an15 cd15 ct15), sl15⟩)
    (c15 : PySem.W.codeIn K cd15 "_law_take" = true)
    (k15 : PySem.W.keepIn K (.ref f15) = true)
    (a16 : PySem.W.nsIn K mainGlobals "_law_string" = some (some (.ref f16)))
    (l16 : K.lookup f16 = some ⟨oc16, od16, .func (PySem.W.fnOf "_law_string" "_law_string" (defArgs s__law_string) (defBody s__law_string) (defScope s__law_string) .none kV16 dc16 pm16 an16 cd16 ct16), sl16⟩)
    (c16 : PySem.W.codeIn K cd16 "_law_string" = true)
    (k16 : PySem.W.keepIn K (.ref f16) = true)
    (a17 : PySem.W.nsIn K mainGlobals "format_expression" = some (some (.ref f17)))
    (l17 : K.lookup f17 = some ⟨oc17, od17, .func (PySem.W.fnOf "format_expression" "format_expression" (defArgs s_format_expression) (defBody s_format_expression) (defScope s_format_expression) .none kV17 dc17 pm17 an17 cd17 ct17), sl17⟩)
    (c17 : PySem.W.codeIn K cd17 "format_expression" = true)
    (k17 : PySem.W.keepIn K (.ref f17) = true)
    (a18 : PySem.W.nsIn K mainGlobals "_law_written" = some (some (.ref f18)))
    (l18 : K.lookup f18 = some ⟨oc18, od18, .func (PySem.W.fnOf "_law_written" "_law_written" (defArgs s__law_written) (defBody s__law_written) (defScope s__law_written) .none kV18 dc18 pm18 an18 cd18 ct18), sl18⟩)
    (c18 : PySem.W.codeIn K cd18 "_law_written" = true)
    (k18 : PySem.W.keepIn K (.ref f18) = true)
    (a19 : PySem.W.nsIn K mainGlobals "_law_term" = some (some (.ref f19)))
    (l19 : K.lookup f19 = some ⟨oc19, od19, .func (PySem.W.fnOf "_law_term" "_law_term" (defArgs s__law_term) (defBody s__law_term) (defScope s__law_term) .none kV19 dc19 pm19 an19 cd19 ct19), sl19⟩)
    (c19 : PySem.W.codeIn K cd19 "_law_term" = true)
    (k19 : PySem.W.keepIn K (.ref f19) = true)
    (a20 : PySem.W.nsIn K mainGlobals "_law_expression" = some (some (.ref f20)))
    (l20 : K.lookup f20 = some ⟨oc20, od20, .func (PySem.W.fnOf "_law_expression" "_law_expression" (defArgs s__law_expression) (defBody s__law_expression) (defScope s__law_expression) .none kV20 dc20 pm20 an20 cd20 ct20), sl20⟩)
    (c20 : PySem.W.codeIn K cd20 "_law_expression" = true)
    (k20 : PySem.W.keepIn K (.ref f20) = true)
    (a21 : PySem.W.nsIn K mainGlobals "_call" = some (some (.ref f21)))
    (l21 : K.lookup f21 = some ⟨oc21, od21, .func (PySem.W.fnOf "_call" "_call" (defArgs s__call) (defBody s__call) (defScope s__call) .none kV21 dc21 pm21 an21 cd21 ct21), sl21⟩)
    (c21 : PySem.W.codeIn K cd21 "_call" = true)
    (k21 : PySem.W.keepIn K (.ref f21) = true)
    (a22 : PySem.W.nsIn K mainGlobals "_term" = some (some (.ref f22)))
    (l22 : K.lookup f22 = some ⟨oc22, od22, .func (PySem.W.fnOf "_term" "_term" (defArgs s__term) (defBody s__term) (defScope s__term) .none kV22 dc22 pm22 an22 cd22 ct22), sl22⟩)
    (c22 : PySem.W.codeIn K cd22 "_term" = true)
    (k22 : PySem.W.keepIn K (.ref f22) = true)
    (a23 : PySem.W.nsIn K mainGlobals "_expression" = some (some (.ref f23)))
    (l23 : K.lookup f23 = some ⟨oc23, od23, .func (PySem.W.fnOf "_expression" "_expression" (defArgs s__expression) (defBody s__expression) (defScope s__expression) .none kV23 dc23 pm23 an23 cd23 ct23), sl23⟩)
    (c23 : PySem.W.codeIn K cd23 "_expression" = true)
    (k23 : PySem.W.keepIn K (.ref f23) = true)
    (a24 : PySem.W.nsIn K mainGlobals "parse_expression" = some (some (.ref f24)))
    (l24 : K.lookup f24 = some ⟨oc24, od24, .func (PySem.W.fnOf "parse_expression" "parse_expression" (defArgs s_parse_expression) (defBody s_parse_expression) (defScope s_parse_expression) .none kV24 dc24 pm24 an24 cd24 ct24), sl24⟩)
    (c24 : PySem.W.codeIn K cd24 "parse_expression" = true)
    (k24 : PySem.W.keepIn K (.ref f24) = true)
    (a25 : PySem.W.nsIn K mainGlobals "law" = some (some (.ref f25)))
    (l25 : K.lookup f25 = some ⟨oc25, od25, .func (PySem.W.fnOf "law" "law" (defArgs s_law) (defBody s_law) (defScope s_law) .none kV25 dc25 pm25 an25 cd25 ct25), sl25⟩)
    (c25 : PySem.W.codeIn K cd25 "law" = true)
    (k25 : PySem.W.keepIn K (.ref f25) = true)
    (zb_abs : PySem.W.nsIn K mainGlobals "abs" = some none)
    (zb_all : PySem.W.nsIn K mainGlobals "all" = some none)
    (zb_int : PySem.W.nsIn K mainGlobals "int" = some none)
    (zb_isinstance : PySem.W.nsIn K mainGlobals "isinstance" = some none)
    (zb_len : PySem.W.nsIn K mainGlobals "len" = some none)
    (zb_max : PySem.W.nsIn K mainGlobals "max" = some none)
    (zb_range : PySem.W.nsIn K mainGlobals "range" = some none)
    (zb_str : PySem.W.nsIn K mainGlobals "str" = some none)
    (zb_tuple : PySem.W.nsIn K mainGlobals "tuple" = some none)
    (zc_IDENTIFIER_LENGTH : PySem.W.nsIn K mainGlobals "IDENTIFIER_LENGTH" = some (some (.int 12 tk_IDENTIFIER_LENGTH)))
    (zc_LETTERS : PySem.W.nsIn K mainGlobals "LETTERS" = some (some (.str (Str.ofString "abcdefghijklmnopqrstuvwxyz") tk_LETTERS)))
    (zc_IDENTIFIER_SIGNS : PySem.W.nsIn K mainGlobals "IDENTIFIER_SIGNS" = some (some (.str (Str.ofString "abcdefghijklmnopqrstuvwxyz0123456789_") tk_IDENTIFIER_SIGNS)))
    (zc_SIGNS : PySem.W.nsIn K mainGlobals "SIGNS" = some (some (.str (Str.ofString "(),+") tk_SIGNS)))
    (zc_QUOTE : PySem.W.nsIn K mainGlobals "QUOTE" = some (some (.str (Str.ofString "\"") tk_QUOTE)))
    (zc_BACKSLASH : PySem.W.nsIn K mainGlobals "BACKSLASH" = some (some (.str (Str.ofString "\\") tk_BACKSLASH)))
    (zc_WORD_ENDS : PySem.W.nsIn K mainGlobals "WORD_ENDS" = some (some (.str (Str.ofString " \"(),+") tk_WORD_ENDS)))
    (zc_MOST_CALLS : PySem.W.nsIn K mainGlobals "MOST_CALLS" = some (some (.int 6 tk_MOST_CALLS)))
    (zd_ESCAPES : PySem.W.nsIn K mainGlobals "ESCAPES" = some (some (.ref D_ESCAPES)))
    (zl_ESCAPES : K.lookup D_ESCAPES = some ⟨.type "dict", none, .dict es_ESCAPES n_ESCAPES, #[]⟩)
    (zo_ESCAPES : (D_ESCAPES == sysModules) = false)
    (zk_ESCAPES : PySem.W.KeysLit w.params es_ESCAPES.toList)
    (ze_ESCAPES : Kn.EntsAre es_ESCAPES.toList escF)
    (zd_FUNCTIONS : PySem.W.nsIn K mainGlobals "FUNCTIONS" = some (some (.ref D_FUNCTIONS)))
    (zl_FUNCTIONS : K.lookup D_FUNCTIONS = some ⟨.type "dict", none, .dict es_FUNCTIONS n_FUNCTIONS, #[]⟩)
    (zo_FUNCTIONS : (D_FUNCTIONS == sysModules) = false)
    (zk_FUNCTIONS : PySem.W.KeysLit w.params es_FUNCTIONS.toList)
    (ze_FUNCTIONS : Kn.EntsAre es_FUNCTIONS.toList funF)
    : ∃ fd : FuncData, (∀ (s : Shared) (v : Value), BindsTo s fd ⟨[v], []⟩ [("script", v)]) ∧ ∀ base : Heap, K.In base → base.Ns mainGlobals mg → FnOk l.prog w K mg base CX0 29 fa fd ["script"] (sp_law K) := by
  cases hfa.symm.trans (PySem.W.mg_of X G a25)
  have T : Tx mg := ⟨PySem.W.mg_none_of X G zb_abs, PySem.W.mg_none_of X G zb_all, PySem.W.mg_none_of X G zb_int, PySem.W.mg_none_of X G zb_isinstance, PySem.W.mg_none_of X G zb_len, PySem.W.mg_none_of X G zb_max, PySem.W.mg_none_of X G zb_range, PySem.W.mg_none_of X G zb_str, PySem.W.mg_none_of X G zb_tuple, ⟨_, PySem.W.mg_of X G zc_IDENTIFIER_LENGTH, ⟨_, rfl⟩⟩, ⟨_, PySem.W.mg_of X G zc_LETTERS, ⟨_, rfl⟩⟩, ⟨_, PySem.W.mg_of X G zc_IDENTIFIER_SIGNS, ⟨_, rfl⟩⟩, ⟨_, PySem.W.mg_of X G zc_SIGNS, ⟨_, rfl⟩⟩, ⟨_, PySem.W.mg_of X G zc_QUOTE, ⟨_, rfl⟩⟩, ⟨_, PySem.W.mg_of X G zc_BACKSLASH, ⟨_, rfl⟩⟩, ⟨_, PySem.W.mg_of X G zc_WORD_ENDS, ⟨_, rfl⟩⟩, ⟨_, PySem.W.mg_of X G zc_MOST_CALLS, ⟨_, rfl⟩⟩⟩
  have x_InvalidRecipe : Kn.Xc K X_InvalidRecipe XB := ⟨⟨⟨nm_InvalidRecipe, q_InvalidRecipe, N_InvalidRecipe_, bs_InvalidRecipe, _, sn_InvalidRecipe, sub_InvalidRecipe, ab_InvalidRecipe, col_InvalidRecipe, dd_InvalidRecipe, m0_InvalidRecipe, m1_InvalidRecipe, m2_InvalidRecipe, m3_InvalidRecipe, m5_InvalidRecipe, xL_InvalidRecipe, rfl⟩, xsa_InvalidRecipe, xex_InvalidRecipe, xty_InvalidRecipe, xkc_InvalidRecipe⟩, ⟨xga_InvalidRecipe, xgg_InvalidRecipe, xex_InvalidRecipe, xhd_InvalidRecipe, xcl_InvalidRecipe, xgs, xtk, xmr_InvalidRecipe⟩, ⟨xga_InvalidRecipe, xgg_InvalidRecipe, xex_InvalidRecipe, xhd_InvalidRecipe⟩, PySem.W.exm_ref xex_InvalidRecipe xhd_InvalidRecipe xty_InvalidRecipe xcc_InvalidRecipe, Kn.kit_ref bhd bty xkB_InvalidRecipe xcc_InvalidRecipe⟩
  have x_BadToken : Kn.Xc K X_BadToken XB := ⟨⟨⟨nm_BadToken, q_BadToken, N_BadToken_, bs_BadToken, _, sn_BadToken, sub_BadToken, ab_BadToken, col_BadToken, dd_BadToken, m0_BadToken, m1_BadToken, m2_BadToken, m3_BadToken, m5_BadToken, xL_BadToken, rfl⟩, xsa_BadToken, xex_BadToken, xty_BadToken, xkc_BadToken⟩, ⟨xga_BadToken, xgg_BadToken, xex_BadToken, xhd_BadToken, xcl_BadToken, xgs, xtk, xmr_BadToken⟩, ⟨xga_BadToken, xgg_BadToken, xex_BadToken, xhd_BadToken⟩, PySem.W.exm_ref xex_BadToken xhd_BadToken xty_BadToken xcc_BadToken, Kn.kit_ref bhd bty xkB_BadToken xcc_BadToken⟩
  let GX : Gx K mg := { c_BuildError := XB, g_BuildError := PySem.W.mg_of X G aB, b_BuildError := ⟨bsp, brd, bfi⟩, c_InvalidRecipe := X_InvalidRecipe, g_InvalidRecipe := PySem.W.mg_of X G xa_InvalidRecipe, x_InvalidRecipe := x_InvalidRecipe, n_InvalidRecipe_path := xnpath_InvalidRecipe, n_InvalidRecipe_line := xnline_InvalidRecipe, n_InvalidRecipe_column := xncolumn_InvalidRecipe, n_InvalidRecipe_reason := xnreason_InvalidRecipe, c_BadToken := X_BadToken, g_BadToken := PySem.W.mg_of X G xa_BadToken, x_BadToken := x_BadToken, n_BadToken_column := xncolumn_BadToken, n_BadToken_reason := xnreason_BadToken }
  have F0 := fun_mk (st := s_InvalidRecipe___init__) l0 c0 k0
  have b0 := F0.binds (ps := ["self", "path", "line", "column", "reason"]) fun _ _ _ _ _ _ us hl => match us, hl with | [_, _, _, _, _], _ => rfl
  have F1 := fun_mk (st := s_BadToken___init__) l1 c1 k1
  have b1 := F1.binds (ps := ["self", "column", "reason"]) fun _ _ _ _ _ _ us hl => match us, hl with | [_, _, _], _ => rfl
  have F2 := fun_mk (st := s__skip_spaces) l2 c2 k2
  have b2 := F2.binds (ps := ["line", "start"]) fun _ _ _ _ _ _ us hl => match us, hl with | [_, _], _ => rfl
  have F3 := fun_mk (st := s__string_part) l3 c3 k3
  have b3 := F3.binds (ps := ["path", "number", "line", "at"]) fun _ _ _ _ _ _ us hl => match us, hl with | [_, _, _, _], _ => rfl
  have F4 := fun_mk (st := s__string) l4 c4 k4
  have b4 := F4.binds (ps := ["path", "number", "line", "start"]) fun _ _ _ _ _ _ us hl => match us, hl with | [_, _, _, _], _ => rfl
  have F5 := fun_mk (st := s__token) l5 c5 k5
  have b5 := F5.binds (ps := ["path", "number", "line", "start"]) fun _ _ _ _ _ _ us hl => match us, hl with | [_, _, _, _], _ => rfl
  have F6 := fun_mk (st := s_scan_line) l6 c6 k6
  have b6 := F6.binds (ps := ["path", "number", "line"]) fun _ _ _ _ _ _ us hl => match us, hl with | [_, _, _], _ => rfl
  have F7 := fun_mk (st := s_is_identifier) l7 c7 k7
  have b7 := F7.binds (ps := ["value"]) fun _ _ _ _ _ _ us hl => match us, hl with | [_], _ => rfl
  have F8 := fun_mk (st := s__sign) l8 c8 k8
  have b8 := F8.binds (ps := ["tokens", "at"]) fun _ _ _ _ _ _ us hl => match us, hl with | [_, _], _ => rfl
  have F9 := fun_mk (st := s__check_there) l9 c9 k9
  have b9 := F9.binds (ps := ["tokens", "at"]) fun _ _ _ _ _ _ us hl => match us, hl with | [_, _], _ => rfl
  have F10 := fun_mk (st := s__check_behind) l10 c10 k10
  have b10 := F10.binds (ps := ["tokens", "at", "wanted"]) fun _ _ _ _ _ _ us hl => match us, hl with | [_, _, _], _ => rfl
  have F11 := fun_mk (st := s_format_string) l11 c11 k11
  have b11 := F11.binds (ps := ["text"]) fun _ _ _ _ _ _ us hl => match us, hl with | [_], _ => rfl
  have F12 := fun_mk (st := s__law_cell) l12 c12 k12
  have b12 := F12.binds (ps := ["script", "k"]) fun _ _ _ _ _ _ us hl => match us, hl with | [_, _], _ => rfl
  have F13 := fun_mk (st := s__law_draws) l13 c13 k13
  have b13 := F13.binds (ps := ["cell", "many", "limit"]) fun _ _ _ _ _ _ us hl => match us, hl with | [_, _, _], _ => rfl
  have F14 := fun_mk (st := s__law_text) l14 c14 k14
  have b14 := F14.binds (ps := ["numbers"]) fun _ _ _ _ _ _ us hl => match us, hl with | [_], _ => rfl
  have F15 := fun_mk (st := s__law_take) l15 c15 k15
  have b15 := F15.binds (ps := ["numbers", "limit"]) fun _ _ _ _ _ _ us hl => match us, hl with | [_, _], _ => rfl
  have F16 := fun_mk (st := s__law_string) l16 c16 k16
  have b16 := F16.binds (ps := ["text"]) fun _ _ _ _ _ _ us hl => match us, hl with | [_], _ => rfl
  have F17 := fun_mk (st := s_format_expression) l17 c17 k17
  have b17 := F17.binds (ps := ["expression"]) fun _ _ _ _ _ _ us hl => match us, hl with | [_], _ => rfl
  have F18 := fun_mk (st := s__law_written) l18 c18 k18
  have b18 := F18.binds (ps := ["expression"]) fun _ _ _ _ _ _ us hl => match us, hl with | [_], _ => rfl
  have F19 := fun_mk (st := s__law_term) l19 c19 k19
  have b19 := F19.binds (ps := ["numbers", "depth"]) fun _ _ _ _ _ _ us hl => match us, hl with | [_, _], _ => rfl
  have F20 := fun_mk (st := s__law_expression) l20 c20 k20
  have b20 := F20.binds (ps := ["numbers", "depth"]) fun _ _ _ _ _ _ us hl => match us, hl with | [_, _], _ => rfl
  have F21 := fun_mk (st := s__call) l21 c21 k21
  have b21 := F21.binds (ps := ["tokens", "at", "known", "depth"]) fun _ _ _ _ _ _ us hl => match us, hl with | [_, _, _, _], _ => rfl
  have F22 := fun_mk (st := s__term) l22 c22 k22
  have b22 := F22.binds (ps := ["tokens", "at", "known", "depth"]) fun _ _ _ _ _ _ us hl => match us, hl with | [_, _, _, _], _ => rfl
  have F23 := fun_mk (st := s__expression) l23 c23 k23
  have b23 := F23.binds (ps := ["tokens", "start", "known", "depth"]) fun _ _ _ _ _ _ us hl => match us, hl with | [_, _, _, _], _ => rfl
  have F24 := fun_mk (st := s_parse_expression) l24 c24 k24
  have b24 := F24.binds (ps := ["tokens", "start", "known"]) fun _ _ _ _ _ _ us hl => match us, hl with | [_, _, _], _ => rfl
  have F25 := fun_mk (st := s_law) l25 c25 k25
  have b25 := F25.binds (ps := ["script"]) fun _ _ _ _ _ _ us hl => match us, hl with | [_], _ => rfl
  have W_ESCAPES : Kn.WD K w mg "ESCAPES" D_ESCAPES escF := Kn.wd_of (PySem.W.mg_of X G zd_ESCAPES) zl_ESCAPES zo_ESCAPES zk_ESCAPES ze_ESCAPES
  have W_FUNCTIONS : Kn.WD K w mg "FUNCTIONS" D_FUNCTIONS funF := Kn.wd_of (PySem.W.mg_of X G zd_FUNCTIONS) zl_FUNCTIONS zo_FUNCTIONS zk_FUNCTIONS ze_FUNCTIONS
  refine ⟨PySem.W.fnOf "law" "law" (defArgs s_law) (defBody s_law) (defScope s_law) .none kV25 dc25 pm25 an25 cd25 ct25, fun s v => .of_eq rfl, fun base _ _ => ?_⟩
  have Z_InvalidRecipe : Kn.Xk l.prog w K mg base 1 "InvalidRecipe" GX.c_InvalidRecipe (sp_I4 K) := ⟨x_InvalidRecipe.oe, _, _, _, a0, i0, ok_InvalidRecipe___init__ F0 T GX, b0, PySem.W.mg_of X G xa_InvalidRecipe⟩
  have Z_BadToken : Kn.Xk l.prog w K mg base 1 "BadToken" GX.c_BadToken (sp_I2 K) := ⟨x_BadToken.oe, _, _, _, a1, i1, ok_BadToken___init__ F1 T GX, b1, PySem.W.mg_of X G xa_BadToken⟩
  have C__skip_spaces : Kn.Cl l.prog w K mg base 1 "_skip_spaces" (sp__skip_spaces K) := Kn.cl_of (ok__skip_spaces F2 T GX) F2 (PySem.W.mg_of X G a2) b2
  have C__string_part : Kn.ClX l.prog w K mg base 3 "_string_part" (sp__string_part GX) := Kn.clX_of (ok__string_part F3 T GX Z_InvalidRecipe W_ESCAPES) F3 (PySem.W.mg_of X G a3) b3
  have C__string : Kn.ClX l.prog w K mg base 4 "_string" (sp__string GX) := Kn.clX_of (ok__string F4 T GX C__string_part Z_InvalidRecipe) F4 (PySem.W.mg_of X G a4) b4
  have C__token : Kn.ClX l.prog w K mg base 5 "_token" (sp__token GX) := Kn.clX_of (ok__token F5 T GX C__string) F5 (PySem.W.mg_of X G a5) b5
  have C_scan_line : Kn.ClX l.prog w K mg base 6 "scan_line" (sp_scan_line GX) := Kn.clX_of (ok_scan_line F6 T GX C__skip_spaces C__token) F6 (PySem.W.mg_of X G a6) b6
  have C_is_identifier : Kn.Cl l.prog w K mg base 1 "is_identifier" (sp_is_identifier K) := Kn.cl_of (ok_is_identifier F7 T GX) F7 (PySem.W.mg_of X G a7) b7
  have C__sign : Kn.Cl l.prog w K mg base 1 "_sign" (sp__sign K) := Kn.cl_of (ok__sign F8 T GX) F8 (PySem.W.mg_of X G a8) b8
  have C__check_there : Kn.ClX l.prog w K mg base 3 "_check_there" (sp__check_there GX) := Kn.clX_of (ok__check_there F9 T GX Z_BadToken) F9 (PySem.W.mg_of X G a9) b9
  have C__check_behind : Kn.ClX l.prog w K mg base 4 "_check_behind" (sp__check_behind GX) := Kn.clX_of (ok__check_behind F10 T GX C__check_there C__sign Z_BadToken) F10 (PySem.W.mg_of X G a10) b10
  have C_format_string : Kn.Cl l.prog w K mg base 1 "format_string" (sp_format_string K) := Kn.cl_of (ok_format_string F11 T GX) F11 (PySem.W.mg_of X G a11) b11
  have C__law_cell : Kn.Cl l.prog w K mg base 1 "_law_cell" (sp__law_cell K) := Kn.cl_of (ok__law_cell F12 T GX) F12 (PySem.W.mg_of X G a12) b12
  have C__law_draws : Kn.Cl l.prog w K mg base 1 "_law_draws" (sp__law_draws K) := Kn.cl_of (ok__law_draws F13 T GX) F13 (PySem.W.mg_of X G a13) b13
  have C__law_text : Kn.Cl l.prog w K mg base 1 "_law_text" (sp__law_text K) := Kn.cl_of (ok__law_text F14 T GX) F14 (PySem.W.mg_of X G a14) b14
  have C__law_take : Kn.Cl l.prog w K mg base 1 "_law_take" (sp__law_take K) := Kn.cl_of (ok__law_take F15 T GX) F15 (PySem.W.mg_of X G a15) b15
  have C__law_string : Kn.Cl l.prog w K mg base 1 "_law_string" (sp__law_string K) := Kn.cl_of (ok__law_string F16 T GX) F16 (PySem.W.mg_of X G a16) b16
  have TF : ∀ n : Nat, Kn.Cl l.prog w K mg base (n + 1) "format_expression" (sp_format_expression K n) := fun n => by
    induction n with
    | zero => exact Kn.cl_of (ok_format_expression0 (lv := 0) F17) F17 (PySem.W.mg_of X G a17) b17
    | succ n ih => exact Kn.cl_of (ok_format_expression (lv := n) F17 T GX C_format_string ih) F17 (PySem.W.mg_of X G a17) b17
  have TW12 : ∀ n : Nat, Kn.Cl l.prog w K mg base (n + 1) "_law_written" (sp__law_written K n) := fun n => by
    induction n with
    | zero => exact Kn.cl_of (ok__law_written0 (lv := 0) F18) F18 (PySem.W.mg_of X G a18) b18
    | succ n ih => exact Kn.cl_of (ok__law_written (lv := n) F18 T GX C__law_string ih) F18 (PySem.W.mg_of X G a18) b18
  have TE : ∀ n : Nat, ∃ lv : Nat, lv = 2 * n ∧ Kn.Cl l.prog w K mg base (lv + 1) "_law_expression" (sp__law_expression K n) := fun n => by
    induction n with
    | zero => exact ⟨0, rfl, Kn.cl_of (ok__law_expression0 (lv := 0) F20) F20 (PySem.W.mg_of X G a20) b20⟩
    | succ n ih =>
      obtain ⟨lv, hlv, C__law_expression⟩ := ih
      have C__law_term : Kn.Cl l.prog w K mg base (lv + 2) "_law_term" (sp__law_term K n) := Kn.cl_of (ok__law_term F19 T GX C__law_take C__law_text C__law_expression) F19 (PySem.W.mg_of X G a19) b19
      exact ⟨lv + 2, by omega, Kn.cl_of (ok__law_expression F20 T GX C__law_take C__law_term) F20 (PySem.W.mg_of X G a20) b20⟩
  have C_format_expression : Kn.Cl l.prog w K mg base 9 "format_expression" (sp_format_expression K 8) := TF 8
  have C__law_written : Kn.Cl l.prog w K mg base 9 "_law_written" (sp__law_written K 8) := TW12 8
  have C__law_expression : Kn.Cl l.prog w K mg base 9 "_law_expression" (sp__law_expression K 4) := by
    obtain ⟨lv, hlv, C⟩ := TE 4
    subst hlv
    exact C
  have TW : ∀ n : Nat, ∃ lv : Nat, lv = 3 * n ∧ Kn.ClX l.prog w K mg base (lv + 5) "_expression" (sp__expression GX n) := fun n => by
    induction n with
    | zero => exact ⟨0, rfl, Kn.clX_of (ok__expression0 F23) F23 (PySem.W.mg_of X G a23) b23⟩
    | succ n ih =>
      obtain ⟨lv, hlv, C__expression⟩ := ih
      have C__call : Kn.ClX l.prog w K mg base (lv + 6) "_call" (sp__call GX n) := Kn.clX_of (ok__call F21 T GX C__sign C__check_behind C__expression Z_BadToken W_FUNCTIONS) F21 (PySem.W.mg_of X G a21) b21
      have C__term : Kn.ClX l.prog w K mg base (lv + 7) "_term" (sp__term GX n) := Kn.clX_of (ok__term F22 T GX C__check_there C__sign C_is_identifier C__call Z_BadToken) F22 (PySem.W.mg_of X G a22) b22
      exact ⟨lv + 3, by omega, Kn.clX_of (ok__expression F23 T GX C__term C__sign) F23 (PySem.W.mg_of X G a23) b23⟩
  have C__expression : Kn.ClX l.prog w K mg base 26 "_expression" (sp__expression GX 7) := by
    obtain ⟨lv, hlv, C⟩ := TW 7
    subst hlv
    exact C
  have C_parse_expression : Kn.ClX l.prog w K mg base 27 "parse_expression" (sp_parse_expression GX) := Kn.clX_of (ok_parse_expression F24 T GX C__expression) F24 (PySem.W.mg_of X G a24) b24
  exact ok_law F25 T GX C__law_draws C__law_cell C__law_expression C_format_expression C__law_written C_scan_line C_parse_expression
end My
open PySem PySem.W PyProof.Rows
set_option maxHeartbeats 0 in
theorem PySem.Challenge.cw_kilnyard_k12_written_expressions_holds : PySem.Challenge.rw_kilnyard_k12_written_expressions.Holds := by
  w_on; o_law; k_head; (case hw => w_witness2)
  k_fill
  refine L2.walk_of (l := PySem.Challenge.rw_kilnyard_k12_written_expressions) (n := 63) (k := 29) (x := "script") (CX := fun _ => L2.CX0) (sp := fun w => My.sp_law _) rfl (by decide) rfl ⟨rfl, by decide, by decide⟩ (fun w h Y => PySem.W.kIn_of Y) ?F (fun _ _ a ns hl _ hS => ⟨a, ns, rfl, ⟨hS, hl⟩, fun _ _ => rfl⟩) (fun _ _ _ _ _ h => h)
  case F =>
    intro w mg fa h KX G hmg
    refine' My.all_mk KX G hmg ?aB ?bsp ?brd ?bfi ?bhd ?bty ?xgs ?xtk ?xa_InvalidRecipe ?xL_InvalidRecipe ?xsa_InvalidRecipe ?xex_InvalidRecipe ?xty_InvalidRecipe ?xkc_InvalidRecipe ?xnpath_InvalidRecipe ?xnline_InvalidRecipe ?xncolumn_InvalidRecipe ?xnreason_InvalidRecipe ?xga_InvalidRecipe ?xgg_InvalidRecipe ?xhd_InvalidRecipe ?xcl_InvalidRecipe ?xmr_InvalidRecipe ?xcc_InvalidRecipe ?xkB_InvalidRecipe ?xa_BadToken ?xL_BadToken ?xsa_BadToken ?xex_BadToken ?xty_BadToken ?xkc_BadToken ?xncolumn_BadToken ?xnreason_BadToken ?xga_BadToken ?xgg_BadToken ?xhd_BadToken ?xcl_BadToken ?xmr_BadToken ?xcc_BadToken ?xkB_BadToken ?a0 ?i0 ?l0 ?c0 ?k0 ?a1 ?i1 ?l1 ?c1 ?k1 ?a2 ?l2 ?c2 ?k2 ?a3 ?l3 ?c3 ?k3 ?a4 ?l4 ?c4 ?k4 ?a5 ?l5 ?c5 ?k5 ?a6 ?l6 ?c6 ?k6 ?a7 ?l7 ?c7 ?k7 ?a8 ?l8 ?c8 ?k8 ?a9 ?l9 ?c9 ?k9 ?a10 ?l10 ?c10 ?k10 ?a11 ?l11 ?c11 ?k11 ?a12 ?l12 ?c12 ?k12 ?a13 ?l13 ?c13 ?k13 ?a14 ?l14 ?c14 ?k14 ?a15 ?l15 ?c15 ?k15 ?a16 ?l16 ?c16 ?k16 ?a17 ?l17 ?c17 ?k17 ?a18 ?l18 ?c18 ?k18 ?a19 ?l19 ?c19 ?k19 ?a20 ?l20 ?c20 ?k20 ?a21 ?l21 ?c21 ?k21 ?a22 ?l22 ?c22 ?k22 ?a23 ?l23 ?c23 ?k23 ?a24 ?l24 ?c24 ?k24 ?a25 ?l25 ?c25 ?k25 ?zb_abs ?zb_all ?zb_int ?zb_isinstance ?zb_len ?zb_max ?zb_range ?zb_str ?zb_tuple ?zc_IDENTIFIER_LENGTH ?zc_LETTERS ?zc_IDENTIFIER_SIGNS ?zc_SIGNS ?zc_QUOTE ?zc_BACKSLASH ?zc_WORD_ENDS ?zc_MOST_CALLS ?zd_ESCAPES ?zl_ESCAPES ?zo_ESCAPES ?zk_ESCAPES ?ze_ESCAPES ?zd_FUNCTIONS ?zl_FUNCTIONS ?zo_FUNCTIONS ?zk_FUNCTIONS ?ze_FUNCTIONS
    (case aB => k_is)
    (case bsp => k_is)
    (case brd => k_is)
    (case bfi => k_is)
    (case bhd => k_is)
    (case bty => k_is)
    (case xgs => k_is)
    (case xtk => k_is)
    (case xa_InvalidRecipe => k_is)
    (case xL_InvalidRecipe => k_is)
    (case xsa_InvalidRecipe => k_is)
    (case xex_InvalidRecipe => k_is)
    (case xty_InvalidRecipe => k_is)
    (case xkc_InvalidRecipe => k_is)
    (case xnpath_InvalidRecipe => k_is)
    (case xnline_InvalidRecipe => k_is)
    (case xncolumn_InvalidRecipe => k_is)
    (case xnreason_InvalidRecipe => k_is)
    (case xga_InvalidRecipe => k_is)
    (case xgg_InvalidRecipe => k_is)
    (case xhd_InvalidRecipe => k_is)
    (case xcl_InvalidRecipe => k_is)
    (case xmr_InvalidRecipe => k_is)
    (case xcc_InvalidRecipe => first | rfl | k_is)
    (case xkB_InvalidRecipe => k_is)
    (case xa_BadToken => k_is)
    (case xL_BadToken => k_is)
    (case xsa_BadToken => k_is)
    (case xex_BadToken => k_is)
    (case xty_BadToken => k_is)
    (case xkc_BadToken => k_is)
    (case xncolumn_BadToken => k_is)
    (case xnreason_BadToken => k_is)
    (case xga_BadToken => k_is)
    (case xgg_BadToken => k_is)
    (case xhd_BadToken => k_is)
    (case xcl_BadToken => k_is)
    (case xmr_BadToken => k_is)
    (case xcc_BadToken => first | rfl | k_is)
    (case xkB_BadToken => k_is)
    (case a0 => k_is)
    (case i0 => k_is)
    (case l0 => k_is)
    (case c0 => k_is)
    (case k0 => k_is)
    (case a1 => k_is)
    (case i1 => k_is)
    (case l1 => k_is)
    (case c1 => k_is)
    (case k1 => k_is)
    (case a2 => k_is)
    (case l2 => k_is)
    (case c2 => k_is)
    (case k2 => k_is)
    (case a3 => k_is)
    (case l3 => k_is)
    (case c3 => k_is)
    (case k3 => k_is)
    (case a4 => k_is)
    (case l4 => k_is)
    (case c4 => k_is)
    (case k4 => k_is)
    (case a5 => k_is)
    (case l5 => k_is)
    (case c5 => k_is)
    (case k5 => k_is)
    (case a6 => k_is)
    (case l6 => k_is)
    (case c6 => k_is)
    (case k6 => k_is)
    (case a7 => k_is)
    (case l7 => k_is)
    (case c7 => k_is)
    (case k7 => k_is)
    (case a8 => k_is)
    (case l8 => k_is)
    (case c8 => k_is)
    (case k8 => k_is)
    (case a9 => k_is)
    (case l9 => k_is)
    (case c9 => k_is)
    (case k9 => k_is)
    (case a10 => k_is)
    (case l10 => k_is)
    (case c10 => k_is)
    (case k10 => k_is)
    (case a11 => k_is)
    (case l11 => k_is)
    (case c11 => k_is)
    (case k11 => k_is)
    (case a12 => k_is)
    (case l12 => k_is)
    (case c12 => k_is)
    (case k12 => k_is)
    (case a13 => k_is)
    (case l13 => k_is)
    (case c13 => k_is)
    (case k13 => k_is)
    (case a14 => k_is)
    (case l14 => k_is)
    (case c14 => k_is)
    (case k14 => k_is)
    (case a15 => k_is)
    (case l15 => k_is)
    (case c15 => k_is)
    (case k15 => k_is)
    (case a16 => k_is)
    (case l16 => k_is)
    (case c16 => k_is)
    (case k16 => k_is)
    (case a17 => k_is)
    (case l17 => k_is)
    (case c17 => k_is)
    (case k17 => k_is)
    (case a18 => k_is)
    (case l18 => k_is)
    (case c18 => k_is)
    (case k18 => k_is)
    (case a19 => k_is)
    (case l19 => k_is)
    (case c19 => k_is)
    (case k19 => k_is)
    (case a20 => k_is)
    (case l20 => k_is)
    (case c20 => k_is)
    (case k20 => k_is)
    (case a21 => k_is)
    (case l21 => k_is)
    (case c21 => k_is)
    (case k21 => k_is)
    (case a22 => k_is)
    (case l22 => k_is)
    (case c22 => k_is)
    (case k22 => k_is)
    (case a23 => k_is)
    (case l23 => k_is)
    (case c23 => k_is)
    (case k23 => k_is)
    (case a24 => k_is)
    (case l24 => k_is)
    (case c24 => k_is)
    (case k24 => k_is)
    (case a25 => k_is)
    (case l25 => k_is)
    (case c25 => k_is)
    (case k25 => k_is)
    (case zb_abs => k_is)
    (case zb_all => k_is)
    (case zb_int => k_is)
    (case zb_isinstance => k_is)
    (case zb_len => k_is)
    (case zb_max => k_is)
    (case zb_range => k_is)
    (case zb_str => k_is)
    (case zb_tuple => k_is)
    (case zc_IDENTIFIER_LENGTH => k_is)
    (case zc_LETTERS => k_is)
    (case zc_IDENTIFIER_SIGNS => k_is)
    (case zc_SIGNS => k_is)
    (case zc_QUOTE => k_is)
    (case zc_BACKSLASH => k_is)
    (case zc_WORD_ENDS => k_is)
    (case zc_MOST_CALLS => k_is)
    (case zd_ESCAPES => k_is)
    (case zl_ESCAPES => k_is)
    (case zo_ESCAPES => first | rfl | k_is)
    (case zk_ESCAPES => exact ⟨⟨_, _, rfl, rfl⟩, ⟨_, _, rfl, rfl⟩, ⟨_, _, rfl, rfl⟩, trivial⟩)
    (case ze_ESCAPES => exact .cons ⟨_, rfl⟩ ⟨_, rfl⟩ (.cons ⟨_, rfl⟩ ⟨_, rfl⟩ (.cons ⟨_, rfl⟩ ⟨_, rfl⟩ .nil)))
    (case zd_FUNCTIONS => k_is)
    (case zl_FUNCTIONS => k_is)
    (case zo_FUNCTIONS => first | rfl | k_is)
    (case zk_FUNCTIONS => exact ⟨⟨_, _, rfl, rfl⟩, ⟨_, _, rfl, rfl⟩, ⟨_, _, rfl, rfl⟩, ⟨_, _, rfl, rfl⟩, ⟨_, _, rfl, rfl⟩, ⟨_, _, rfl, rfl⟩, ⟨_, _, rfl, rfl⟩, ⟨_, _, rfl, rfl⟩, ⟨_, _, rfl, rfl⟩, ⟨_, _, rfl, rfl⟩, ⟨_, _, rfl, rfl⟩, ⟨_, _, rfl, rfl⟩, ⟨_, _, rfl, rfl⟩, trivial⟩)
    (case ze_FUNCTIONS => exact (.cons ⟨_, rfl⟩ ⟨_, rfl⟩ (.cons ⟨_, rfl⟩ ⟨_, rfl⟩ (.cons ⟨_, rfl⟩ ⟨_, rfl⟩ (.cons ⟨_, rfl⟩ ⟨_, rfl⟩ (.cons ⟨_, rfl⟩ ⟨_, rfl⟩ (.cons ⟨_, rfl⟩ ⟨_, rfl⟩ (.cons ⟨_, rfl⟩ ⟨_, rfl⟩ (.cons ⟨_, rfl⟩ ⟨_, rfl⟩ (.cons ⟨_, rfl⟩ ⟨_, rfl⟩ (.cons ⟨_, rfl⟩ ⟨_, rfl⟩ (.cons ⟨_, rfl⟩ ⟨_, rfl⟩ (.cons ⟨_, rfl⟩ ⟨_, rfl⟩ (.cons ⟨_, rfl⟩ ⟨_, rfl⟩ .nil))))))))))))))

