import PyProof.Rows.All
import Wide.All
import OpenK.AllK
import Wide.FinOn
import HandS.Evl
import HandS.Codes
import HandS.Iter
import HandS.Dict
import HandS.Text
import HandS.Words
import HandS.Walk
import HandS.IsInst
import HandS.Steps
import HandS.More
import HandS.ReplaceList
import HandS.ReplaceLit
import HandS.Replace
import HandS.ExcInit
import HandS.ExcIs
import HandS.ExcField
import HandS.IntHex
import HandS.FStr
import KE.KExcIs
import KE.KxField
import HandS.WordsExc
import HandS.Defaults
import HandS.ReplaceDef
import HandS.TryMany
import HandS.WordsDict
import HandS.StrMore
import PyProof.StrOps2
import PyProof.Rows.SortShellAny
import HandS.Strs
import HandS.Style
import HandS.Set
import HandS.SetTxt0
import HandS.SortKw
import HandS.DictComp
import HandS.DeepEq
import KE.DataMinMax
import KE.KTryMore
import HandS.TryOnly
import HandS.CallLocal
import KE.GoesEnumKw
import HandS.TupAny
import PySem.Challenge.RW_kilnyard_k38_saved_stores
set_option Elab.async false
set_option linter.all false
set_option maxRecDepth 100000
set_option maxHeartbeats 4000000
/-! Kn: what all our proofs share: named relations, values, comprehensions, promises of pure defs. -/
namespace Kn
open PySem PySem.Spec PyProof.Rows L2 Evl SX

/-! ### relations with a name -/
def rAddStr : R2 := fun x y H Q => ∃ i j, x = .str i ∧ y = .str j ∧ i.length + j.length ≤ sizeLine ∧ Q (.str (i ++ j)) H
theorem op_addS {X : Cx} : OpR X (binaryOp .Add) rAddStr := op_add_str
def rLenStr : List V → Hp → VK → Prop := fun xs H Q => ∃ z, xs = [.str z] ∧ z.length ≤ sizeLine ∧ Q (.int z.length) H
theorem cr_lenStr {X : Cx} : CallR X (.builtin "len") rLenStr := call_len_str
theorem cr_lenSeq {X : Cx} : CallR X (.builtin "len") (rLenS X.K) := call_len_seq
def rOrd : List V → Hp → VK → Prop := fun xs H Q => ∃ x, xs = [.str x] ∧ x.length = 1 ∧ Q (.int (x.cps.getD 0 0 : Nat)) H
theorem cr_ord {X : Cx} : CallR X (.builtin "ord") rOrd := call_ord
def rInt1 : List V → Hp → VK → Prop := fun xs H Q => (∃ i, xs = [.int i] ∧ Q (.int i) H) ∨ ∃ k, xs = [.bl k] ∧ Q (.int (if k then 1 else 0)) H
theorem cr_int1 {X : Cx} : CallR X (.type "int") rInt1 := call_int1
def rAbs : List V → Hp → VK → Prop := fun xs H Q => ∃ i, xs = [.int i] ∧ Q (.int (if i < 0 then -i else i)) H
theorem cr_abs {X : Cx} : CallR X (.builtin "abs") rAbs := call_abs
def rJoin (K : PySem.W.Frag) : V → List V → Hp → VK → Prop := fun x xs H Q => ∃ a p, ∃ ys : List Str, x = .str a ∧ xs = [.ref p] ∧ (SqL K H p (ys.map V.str) ∨ SqT K H p (ys.map V.str)) ∧ (ys.map (·.length)).sum + ys.length * a.length ≤ 16777216 ∧ Q (.str (Txt.join a ys)) H
theorem pe_joinN {X : Cx} {e : Expr} {to te : TE} (h : PE X e (tM1 (fun x xs H Q => ∃ a p, ∃ ys : List Str, x = .str a ∧ xs = [.ref p] ∧ (SqL X.K H p (ys.map V.str) ∨ SqT X.K H p (ys.map V.str)) ∧ (ys.map (·.length)).sum + ys.length * a.length ≤ 16777216 ∧ Q (.str (Txt.join a ys)) H) to te)) : PE X e (tM1 (rJoin X.K) to te) := h
theorem cr_isi {X : Cx} : CallR X (.builtin "isinstance") (rIsi X.K) := call_isi

/-! ### values -/
section
variable {K : PySem.W.Frag} {σ : L2.St} {H H' : Hp} {ta tb te tc : TE} {t u : TT} {x y z v : V}
theorem val_abs (i : Int) : (if i < 0 then -i else i) = (i.natAbs : Int) := by split <;> omega
theorem rc_abs {i : Int} : RC rAbs [.int i] H (.int (i.natAbs : Int)) := fun H1 _ _ q => ⟨i, rfl, by rw [val_abs]; exact q H1 (Ex.refl H1)⟩
theorem rc_int {i : Int} : RC rInt1 [.int i] H (.int i) := fun H1 _ _ q => .inl ⟨i, rfl, q H1 (Ex.refl H1)⟩
theorem rc_intB {b : Bool} : RC rInt1 [.bl b] H (.int (if b then 1 else 0)) := fun H1 _ _ q => .inr ⟨b, rfl, q H1 (Ex.refl H1)⟩
theorem rc_ord {c : Nat} : RC rOrd [.str (S [c])] H (.int (c : Int)) := fun H1 _ _ q => ⟨S [c], rfl, rfl, q H1 (Ex.refl H1)⟩
theorem rc_lenS {l : List Nat} (h : l.length ≤ 100000) : RC rLenStr [.str (S l)] H (.int (l.length : Int)) := fun H1 _ _ q => ⟨S l, rfl, by rw [S_len]; exact sz_of h, by rw [S_len]; exact q H1 (Ex.refl H1)⟩
theorem rv_addS {a b : List Nat} (h : a.length + b.length ≤ 100000) : RV rAddStr (.str (S a)) (.str (S b)) H (.str (S (a ++ b))) := fun H1 _ _ q =>
  ⟨S a, S b, rfl, rfl, by rw [S_len, S_len]; exact sz_of h, by rw [S_cat]; exact q H1 (Ex.refl H1)⟩
theorem rv_mod {i j : Int} (h : 0 < j) : RV (rI (fun _ j => 0 < j) fun i j => .int (i % j)) (.int i) (.int j) H (.int (i % j)) := rv_I h
theorem rv_fdiv {i j : Int} (h : CDiv i j) : RV (rI CDiv fun i j => .int (i / j)) (.int i) (.int j) H (.int (i / j)) := rv_I h
theorem rv_mul {i j : Int} (h : CMul i j) : RV (rI CMul fun i j => .int (i * j)) (.int i) (.int j) H (.int (i * j)) := rv_I h
theorem S1 (x : Str) {l : List Nat} (h : x.cps.toList = l) : x = S l := TL.ext_tl h
theorem ev_chain {r r' : R2} {k b : Bool} (ha : Ev ta σ H x) (hb : Ev tb σ H y) (hr : RV r x y H (.bl k)) (hc : Ev tc σ H z) (hr' : RV r' y z H (.bl b)) : Ev (tChain r r' ta tb tc) σ H (.bl (k && b)) := fun H1 e Q q =>
  ha H1 e _ fun H2 e2 => hb H2 (e.trans e2) _ fun H3 e3 => hr H3 ((e.trans e2).trans e3) _ fun H4 e4 => ⟨k, rfl, by
    have e14 := (e2.trans e3).trans e4
    cases k with
    | true =>
      show tc σ H4 fun w' H5 => r' y w' H5 Q
      exact hc H4 (e.trans e14) _ fun H5 e5 => hr' H5 ((e.trans e14).trans e5) Q fun H6 e6 => q H6 ((e14.trans e5).trans e6)
    | false =>
      show Q (.bl false) H4
      exact q H4 e14⟩
theorem ev_idxS {l : List Nat} {i : Int} {c : Nat} (ha : Ev ta σ H (.str (S l))) (hb : Ev tb σ H (.int i)) (h : l.length ≤ 100000) (hat : atI l i = some c) : Ev (tOp rIxS ta tb) σ H (.str (S [c])) := ev_op ha hb (rv_ixS (w := S l) (by rw [S_len]; exact h) hat)
theorem atI_nat' {α : Type} {xs : List α} {i : Int} {j : Nat} {v : α} (hi : i = (j : Int)) (h : xs[j]? = some v) : atI xs i = some v := by
  subst hi
  exact atI_nat h
theorem ev_join {s : List Nat} {ys : List (List Nat)} (hs : Ev ta σ H (.str (S s))) (hl : EvL tb σ H (ys.map fun l => V.str (S l))) (hz : (ys.map (·.length)).sum + ys.length * s.length ≤ 16777216) : Ev (tM1 (rJoin K) ta tb) σ H (.str (S (TL.joinL s ys))) := fun H1 e Q q =>
  hs H1 e _ fun H2 e2 => ⟨⟨_, rfl⟩, hl H2 (e.trans e2) _ fun p H3 _ e3 hp => ⟨S s, p, ys.map S, rfl, rfl, .inl (.inl (.inl (by rw [List.map_map]; exact hp))), by
    rw [SX.lens, List.length_map, S_len]
    exact hz, by
    rw [SX.join_S]
    exact q H3 (e2.trans e3)⟩⟩
theorem ev_slS {to tp : TO} {l : List Nat} {lo hi : Option Int} (h : Ev te σ H (.str (S l))) (h1 : EvO to σ H lo) (h2 : EvO tp σ H hi) (hz : l.length ≤ 100000) : Ev (tSl rSlS te to tp) σ H (.str (cutS (S l) lo hi)) := fun H1 e _ q =>
  h H1 e _ fun H2 e2 => h1 H2 (e.trans e2) _ fun H3 e3 => h2 H3 ((e.trans e2).trans e3) _ fun H4 e4 => ⟨S l, rfl, by rw [S_len]; exact sz_of hz, q H4 ((e2.trans e3).trans e4)⟩
theorem ev_isi {T : String} {c : String} {b : Bool} (ha : Ev ta σ H x) (ht : TyX K H x (.type T)) (hb : kitB T c = some b) (hm : ∀ H1, Ex H H1 → TyX K H1 x (.type T)) : Ev (tCB (rIsi K) (tCons ta (tCons (tC (.ty c)) tNil))) σ H (.bl b) := fun H1 e Q q =>
  ha H1 e _ fun H2 e2 => ⟨x, .ty c, .type T, .type c, b, rfl, .ty c, hm H2 (e.trans e2), kit_ty hb, q H2 e2⟩
theorem ev_all {τ : Type} {xs : List τ} {p : τ → Bool} (ha : EvL ta σ H (xs.map fun a => V.bl (p a))) : Ev (tCB (rAll K) (tCons ta tNil)) σ H (.bl (xs.all p)) := fun H1 e Q q =>
  ha H1 e _ fun a H2 _ e2 h2 => ⟨a, xs.map p, rfl, sq_of (by rw [List.map_map]; exact h2), by
    have hh : (xs.map p).all id = xs.all p := by rw [List.all_map]; rfl
    rw [hh]
    exact q H2 e2⟩

/-! ### comprehensions: no test, a new list of what each item gives -/
theorem given_all {α : Type} {xs : List α} {f : α → V} {d : V} : given xs.length (fun _ => true) (fun i => (xs[i]?.map f).getD d) = xs.map f := by
  unfold given
  rw [List.filter_eq_self.mpr (fun _ _ => rfl)]
  refine List.ext_getElem (by simp) fun i h1 h2 => ?_
  simp at h1 h2
  simp [h2]
theorem et_yes {H : Hp} : EvT tYes σ H true := fun H1 _ _ q => q H1 (Ex.refl H1)
theorem el_lcM {τ : Type} {a : Addr} {ns : List τ} {g f : τ → V} {tl : TE} {j : Nat} {vs : List Nat} (h : Ev tl σ H (.ref a)) (hx : SqL K H a (ns.map g)) (hz : ns.length ≤ 40000) (hw : ∀ x, wipe ((wipe σ vs).set j (some x)) vs = wipe σ vs)
    (he : ∀ n ∈ ns, ∀ H1, Ex H H1 → Ev te ((wipe σ vs).set j (some (g n))) H1 (f n)) : EvL (tLc (iList K tl) (gName j) tYes te vs) σ H (ns.map f) := by
  have k := el_lcL (K := K) (te := te) (t := tYes) (j := j) (vs := vs) (fun _ => true) (fun i => (ns[i]?.map f).getD .non) h hx (by rw [List.length_map]; exact hz) hw (fun _ _ H1 _ _ => et_yes) (fun i x H1 e hi _ => by
    rw [List.getElem?_map] at hi
    cases hn : ns[i]? with
    | none => rw [hn] at hi; cases hi
    | some n =>
      rw [hn] at hi
      cases Option.some.inj hi
      exact he n (List.mem_of_getElem? hn) H1 e)
  rw [List.length_map, given_all] at k
  exact k
theorem el_lcN {τ : Type} {ns : List τ} {g f : τ → V} {tl : TE} {j : Nat} {vs : List Nat} (h : EvL tl σ H (ns.map g)) (hz : ns.length ≤ 40000) (hw : ∀ x, wipe ((wipe σ vs).set j (some x)) vs = wipe σ vs)
    (he : ∀ n ∈ ns, ∀ H1, Ex H H1 → Ev te ((wipe σ vs).set j (some (g n))) H1 (f n)) : EvL (tLc (iList K tl) (gName j) tYes te vs) σ H (ns.map f) := by
  have k := el_lcNL (K := K) (te := te) (t := tYes) (j := j) (vs := vs) (fun _ => true) (fun i => (ns[i]?.map f).getD .non) h (by rw [List.length_map]; exact hz) hw (fun _ _ H1 _ _ => et_yes) (fun i x H1 e hi _ => by
    rw [List.getElem?_map] at hi
    cases hn : ns[i]? with
    | none => rw [hn] at hi; cases hi
    | some n =>
      rw [hn] at hi
      cases Option.some.inj hi
      exact he n (List.mem_of_getElem? hn) H1 e)
  rw [List.length_map, given_all] at k
  exact k
theorem el_lcR {n : Int} {f : Nat → V} {ta : TA} {j : Nat} {vs : List Nat} (h : EvA ta σ H [.int n]) (hn : 0 ≤ n ∧ n ≤ 40000) (hw : ∀ x, wipe ((wipe σ vs).set j (some x)) vs = wipe σ vs)
    (he : ∀ (i : Nat) H1, Ex H H1 → (i : Int) < n → Ev te ((wipe σ vs).set j (some (.int (i : Int)))) H1 (f i)) : EvL (tLc (iRng1 ta) (gName j) tYes te vs) σ H ((List.range n.toNat).map f) := by
  have k := el_lcR1 (te := te) (t := tYes) (j := j) (vs := vs) (fun _ => true) f h hn hw (fun _ H1 _ _ => et_yes) (fun i H1 e hi _ => he i H1 e hi)
  unfold given at k
  rw [List.filter_eq_self.mpr (fun _ _ => rfl)] at k
  exact k
/-- over the signs of a text -/
theorem el_lcS {l : List Nat} {f : Nat → V} {ts : TE} {j : Nat} {vs : List Nat} (h : Ev ts σ H (.str (S l))) (hz : l.length ≤ 40000) (hw : ∀ x, wipe ((wipe σ vs).set j (some x)) vs = wipe σ vs)
    (he : ∀ c ∈ l, ∀ H1, Ex H H1 → Ev te ((wipe σ vs).set j (some (.str (S [c])))) H1 (f c)) : EvL (tLc (iStr ts) (gName j) tYes te vs) σ H (l.map f) := fun H0 e Q q => h H0 e _ fun H1 e1 => ⟨S l, rfl, fun Dl hD => by
  have hl : (S l).cps.size = l.length := by simp [S]
  refine lc_it walk_str (Cw H1 (fun _ => true) (fun i => (l[i]?.map f).getD .non) Dl) ⟨hD, Ex.new hD, upd_same⟩ (fun _ _ _ _ => trivial) (fun i x H2 H3 hi p y => ?_) (fun H2 p => ?_)
  · obtain ⟨rfl, c, hc, rfl⟩ := y
    have hc' : l[i]? = some c := by simpa [S] using hc
    refine ⟨hw _, cw_turn p (by rw [hl] at hi; omega) et_yes (fun _ => ?_)⟩
    rw [hc']
    exact he c (List.mem_of_getElem? hc') H1 (e.trans e1)
  · rw [hl] at p
    have := p.2.2
    rw [given_all] at this
    exact q Dl H2 (fresh_back e1 p.1) (e1.trans p.2.1) this⟩
end

/-! ### promises of pure defs: a value, a new list -/
def Rt (H : Hp) (v : V) (Q : VK) : Prop := ∀ H1, Ex H H1 → Q v H1
def Rl (H : Hp) (xs : List V) (Q : VK) : Prop := ∀ p H1, H p = none → Ex H H1 → H1 p = some (.lst xs) → Q (.ref p) H1
def sp1 {α : Type} (A : α → List V) (pre : α → Hp → Prop) (val : α → V) : Sp := fun vs H Q _ => ∃ a, vs = A a ∧ pre a H ∧ Rt H (val a) Q
def sp2 {α β : Type} (A : α → β → List V) (pre : α → β → Hp → Prop) (val : α → β → V) : Sp := fun vs H Q _ => ∃ a b, vs = A a b ∧ pre a b H ∧ Rt H (val a b) Q
def sp3 {α β γ : Type} (A : α → β → γ → List V) (pre : α → β → γ → Hp → Prop) (val : α → β → γ → V) : Sp := fun vs H Q _ => ∃ a b c, vs = A a b c ∧ pre a b c H ∧ Rt H (val a b c) Q
def sl1 {α : Type} (A : α → List V) (pre : α → Hp → Prop) (val : α → List V) : Sp := fun vs H Q _ => ∃ a, vs = A a ∧ pre a H ∧ Rl H (val a) Q
def sl2 {α β : Type} (A : α → β → List V) (pre : α → β → Hp → Prop) (val : α → β → List V) : Sp := fun vs H Q _ => ∃ a b, vs = A a b ∧ pre a b H ∧ Rl H (val a b) Q
def sl3 {α β γ : Type} (A : α → β → γ → List V) (pre : α → β → γ → Hp → Prop) (val : α → β → γ → List V) : Sp := fun vs H Q _ => ∃ a b c, vs = A a b c ∧ pre a b c H ∧ Rl H (val a b c) Q
section
variable {K : PySem.W.Frag} {σ : L2.St} {H H' : Hp} {ta : TA} {E : XK} {α β γ : Type}
theorem ev_c1 {A : α → List V} {pre : α → Hp → Prop} {val : α → V} {a : α} (h : EvA ta σ H (A a)) (hp : ∀ H1, Ex H H1 → pre a H1) : Ev (tCall (sp1 A pre val) [] E ta) σ H (val a) := fun H1 e Q q =>
  h H1 e _ fun H2 e2 => ⟨a, List.append_nil _, hp H2 (e.trans e2), fun H3 e3 => q H3 (e2.trans e3)⟩
theorem ev_c2 {A : α → β → List V} {pre : α → β → Hp → Prop} {val : α → β → V} {a : α} {b : β} (h : EvA ta σ H (A a b)) (hp : ∀ H1, Ex H H1 → pre a b H1) : Ev (tCall (sp2 A pre val) [] E ta) σ H (val a b) := fun H1 e Q q =>
  h H1 e _ fun H2 e2 => ⟨a, b, List.append_nil _, hp H2 (e.trans e2), fun H3 e3 => q H3 (e2.trans e3)⟩
theorem ev_c3 {A : α → β → γ → List V} {pre : α → β → γ → Hp → Prop} {val : α → β → γ → V} {a : α} {b : β} {c : γ} (h : EvA ta σ H (A a b c)) (hp : ∀ H1, Ex H H1 → pre a b c H1) : Ev (tCall (sp3 A pre val) [] E ta) σ H (val a b c) := fun H1 e Q q =>
  h H1 e _ fun H2 e2 => ⟨a, b, c, List.append_nil _, hp H2 (e.trans e2), fun H3 e3 => q H3 (e2.trans e3)⟩
theorem el_c1 {A : α → List V} {pre : α → Hp → Prop} {val : α → List V} {a : α} (h : EvA ta σ H (A a)) (hp : ∀ H1, Ex H H1 → pre a H1) : EvL (tCall (sl1 A pre val) [] E ta) σ H (val a) := fun H1 e Q q =>
  h H1 e _ fun H2 e2 => ⟨a, List.append_nil _, hp H2 (e.trans e2), fun p H3 hp e3 h3 => q p H3 (fresh_back e2 hp) (e2.trans e3) h3⟩
theorem el_c2 {A : α → β → List V} {pre : α → β → Hp → Prop} {val : α → β → List V} {a : α} {b : β} (h : EvA ta σ H (A a b)) (hp : ∀ H1, Ex H H1 → pre a b H1) : EvL (tCall (sl2 A pre val) [] E ta) σ H (val a b) := fun H1 e Q q =>
  h H1 e _ fun H2 e2 => ⟨a, b, List.append_nil _, hp H2 (e.trans e2), fun p H3 hp e3 h3 => q p H3 (fresh_back e2 hp) (e2.trans e3) h3⟩
theorem el_c3 {A : α → β → γ → List V} {pre : α → β → γ → Hp → Prop} {val : α → β → γ → List V} {a : α} {b : β} {c : γ} (h : EvA ta σ H (A a b c)) (hp : ∀ H1, Ex H H1 → pre a b c H1) : EvL (tCall (sl3 A pre val) [] E ta) σ H (val a b c) := fun H1 e Q q =>
  h H1 e _ fun H2 e2 => ⟨a, b, c, List.append_nil _, hp H2 (e.trans e2), fun p H3 hp e3 h3 => q p H3 (fresh_back e2 hp) (e2.trans e3) h3⟩
/-- a call one of whose arguments is a new list: f([..]) -/
theorem ev_c1L {τ : Type} {te : TE} {A : Addr → List τ → List V} {pre : Addr → List τ → Hp → Prop} {val : Addr → List τ → V} {v : V} {xs : List V} (h : EvL te σ H xs) (ns : List τ) (hA : ∀ p, A p ns = [.ref p]) (hp : ∀ p H1, Ex H H1 → H1 p = some (.lst xs) → pre p ns H1) (hv : ∀ p, val p ns = v) :
    Ev (tCall (sp2 A pre val) [] E (tCons te tNil)) σ H v := fun H1 e Q q =>
  h H1 e _ fun p H2 hn e2 h2 => ⟨p, ns, by rw [hA]; rfl, hp p H2 (e.trans e2) h2, fun H3 e3 => by
    rw [hv]
    exact q H3 (e2.trans e3)⟩
end

/-! ### a def that may be called by its name -/
structure Cl (P : Program) (w : World) (K : PySem.W.Frag) (mg : Str → Option Value) (base : Heap) (k : Nat) (x : Str) (sp : Sp) : Prop where
  ex : ∃ (f : Addr) (fd : FuncData) (ps : List Str), FnOk P w K mg base CX0 k f fd ps sp ∧ mg x = some (.ref f) ∧ PySem.W.keepIn K (.ref f) = true ∧ Binds K fd ps []
section
variable {P : Program} {w : World} {K : PySem.W.Frag} {mg : Str → Option Value} {base : Heap}
theorem cl_of {k : Nat} {x : Str} {sp : Sp} {st : Stmt} {f : Addr} {fd : FuncData} {ps : List Str} (ok : FnOk P w K mg base CX0 k f fd ps sp) (F : Fun K x x st f fd) (g : mg x = some (.ref f)) (b : Binds K fd ps []) : Cl P w K mg base k x sp := ⟨f, fd, ps, ok, g, F.kp, b⟩
variable {X : Cx} {k j : Nat} {x : Str} {sp : Sp} {p pos : Pos} {e : Expr} {es : List Expr} {t : TA}
theorem pe_cl (c : Cl X.prog X.w X.K X.mg X.base k x sp) (hr : Room j X.A) (hk : k ≤ j) (hg : Gl X x) (ha : PA X (e :: es) t)
    (hdb : (x == ("__debug__" : Str)) = false := by decide) (he : starEach (e :: es) X.env = (false, eval e X.env) :: starEach es X.env := by rfl) (hpl : (backTo pos (starEach es X.env)).any (·.1) = false := by rfl) :
    PE X (.Call (.Name x p) (e :: es) [] pos) (tCall sp [] E0 t) := by
  obtain ⟨f, fd, ps, F, hm, kp, b⟩ := c.ex
  exact pe_call F (hr.mono hk) hg hm kp b .nil pass0 ha hdb he hpl
theorem pe_cl0 (c : Cl X.prog X.w X.K X.mg X.base k x sp) (hr : Room j X.A) (hk : k ≤ j) (hg : Gl X x)
    (hdb : (x == ("__debug__" : Str)) = false := by decide) :
    PE X (.Call (.Name x p) [] [] pos) (tCall sp [] E0 tNil) := by
  obtain ⟨f, fd, ps, F, hm, kp, b⟩ := c.ex
  exact pe_call0 F (hr.mono hk) hg hm kp b .nil pass0 hdb
end
end Kn
/-! ### values, step by step -/
namespace Kn
open PySem PySem.Spec PyProof.Rows L2 Evl SX
section
variable {H : Hp}
theorem rv_eqI {a b : Int} : RV rEq (.int a) (.int b) H (.bl (decide (a = b))) := fun H1 _ _ q => ⟨rfl, by
  have e : decide (V.int a = V.int b) = decide (a = b) := by simp
  rw [e]
  exact q H1 (Ex.refl H1)⟩
theorem rv_neI {a b : Int} : RV rNe (.int a) (.int b) H (.bl (!decide (a = b))) := fun H1 _ _ q => ⟨rfl, by
  have e : decide (V.int a = V.int b) = decide (a = b) := by simp
  rw [e]
  exact q H1 (Ex.refl H1)⟩
theorem dec_S {a b : List Nat} : decide (V.str (S a) = V.str (S b)) = decide (a = b) := by
  by_cases h : a = b
  · subst h
    simp
  · rw [decide_eq_false h, decide_eq_false (fun e => h (S_inj (V.str.inj e)))]
theorem rv_eqS {a b : List Nat} : RV rEq (.str (S a)) (.str (S b)) H (.bl (decide (a = b))) := fun H1 _ _ q => ⟨rfl, by
  rw [dec_S]
  exact q H1 (Ex.refl H1)⟩
theorem rv_neS {a b : List Nat} : RV rNe (.str (S a)) (.str (S b)) H (.bl (!decide (a = b))) := fun H1 _ _ q => ⟨rfl, by
  rw [dec_S]
  exact q H1 (Ex.refl H1)⟩
theorem rv_le {a b : Int} : RV (rI0 fun i j => .bl (decide (i ≤ j))) (.int a) (.int b) H (.bl (decide (a ≤ b))) := rv_I0
theorem rv_lt {a b : Int} : RV (rI0 fun i j => .bl (decide (i < j))) (.int a) (.int b) H (.bl (decide (a < b))) := rv_I0
theorem rv_inS {c : Nat} {l : List Nat} : RV rInS (.str (S [c])) (.str (S l)) H (.bl (decide (c ∈ l))) := fun H1 _ _ q => ⟨c, S l, rfl, rfl, q H1 (Ex.refl H1)⟩
theorem rv_ninS {c : Nat} {l : List Nat} : RV rNotInS (.str (S [c])) (.str (S l)) H (.bl (!decide (c ∈ l))) := fun H1 _ _ q => ⟨c, S l, rfl, rfl, q H1 (Ex.refl H1)⟩
end
end Kn
/-! ### lists cut, texts cut, constants -/
namespace Kn
open PySem PySem.Spec PyProof.Rows L2 Evl SX
theorem cut_nat {α : Type} (xs : List α) (a b : Nat) : (xs.drop (min a xs.length)).take (min b xs.length - min a xs.length) = (xs.drop a).take (b - a) := by
  by_cases h : a ≤ xs.length
  · have e : min a xs.length = a := Nat.min_eq_left h
    rw [e, List.take_eq_take_iff, List.length_drop]
    omega
  · have e : xs.drop a = [] := List.drop_of_length_le (by omega)
    have e2 : xs.drop (min a xs.length) = [] := List.drop_of_length_le (by omega)
    rw [e, e2, List.take_nil, List.take_nil]
theorem cutV_nat {xs : List V} (a b : Nat) : cutV xs (some (a : Int)) (some (b : Int)) = (xs.drop a).take (b - a) := by
  unfold cutV
  rw [HT.sIx_nat, HT.sIx_nat]
  exact cut_nat xs a b
theorem cutV_map {τ : Type} {g : τ → V} {ns : List τ} {i j : Int} (a b : Nat) (hi : i = (a : Int)) (hj : j = (b : Int)) : cutV (ns.map g) (some i) (some j) = ((ns.drop a).take (b - a)).map g := by
  subst hi hj
  rw [cutV_nat, List.map_take, List.map_drop]
theorem join_nil : ∀ ys : List (List Nat), TL.joinL [] ys = ys.flatten
  | [] => rfl
  | [p] => by rw [List.flatten_cons, List.flatten_nil, List.append_nil]; rfl
  | p :: q :: r => by
    show p ++ ([] ++ TL.joinL [] (q :: r)) = _
    rw [join_nil (q :: r), List.nil_append, List.flatten_cons (l := p)]
section
variable {K : PySem.W.Frag} {σ : L2.St} {H H' : Hp} {ta tb te tc : TE} {t u : TT} {x y z v : V}
theorem ev_cS {x : Str} {l : List Nat} (h : x.cps.toList = l) : Ev (tC (.str x)) σ H (.str (S l)) := by
  rw [S1 x h]
  exact ev_c
theorem el_slN {τ : Type} {g : τ → V} {ns : List τ} {i j : Int} {p : Addr} {to tp : TO} (h : Ev te σ H (.ref p)) (h1 : EvO to σ H (some i)) (h2 : EvO tp σ H (some j)) (hs : SqL K H p (ns.map g)) (a b : Nat) (hi : i = (a : Int)) (hj : j = (b : Int)) :
    EvL (tSl (rSlL K) te to tp) σ H (((ns.drop a).take (b - a)).map g) := by
  rw [← cutV_map a b hi hj]
  exact el_sl h h1 h2 hs
theorem ev_slTo {to tp : TO} {l : List Nat} {i : Int} (h : Ev te σ H (.str (S l))) (h1 : EvO to σ H none) (h2 : EvO tp σ H (some i)) (hz : l.length ≤ 100000) (hi : 0 ≤ i) : Ev (tSl rSlS te to tp) σ H (.str (S (l.take i.toNat))) := by
  have k := ev_slS h h1 h2 hz
  rw [C8.cutS_slice, slice_to hi] at k
  exact k
theorem ev_slFrom {to tp : TO} {l : List Nat} {i : Int} (h : Ev te σ H (.str (S l))) (h1 : EvO to σ H (some i)) (h2 : EvO tp σ H none) (hz : l.length ≤ 100000) (hi : 0 ≤ i) : Ev (tSl rSlS te to tp) σ H (.str (S (l.drop i.toNat))) := by
  have k := ev_slS h h1 h2 hz
  rw [C8.cutS_slice, slice_from hi] at k
  exact k
theorem ev_isiB {b : Bool} (ha : Ev ta σ H (.bl b)) : Ev (tCB (rIsi K) (tCons ta (tCons (tC (.ty "bool")) tNil))) σ H (.bl true) := ev_isi (T := "bool") ha (.base (.bl b)) (by decide +kernel) fun _ _ => .base (.bl b)
/-- == of two lists of data -/
theorem eqv_lists {xs ys : List PyData} (h : PyData.eqv (.list xs) (.list ys) = b) : PyData.eqv (.list xs) (.list ys) = b := h
end
end Kn
namespace Kn
open PySem PySem.Spec PyProof.Rows L2 Evl SX
section
variable {K : PySem.W.Frag} {σ : L2.St} {H H' : Hp} {ta tb te tc : TE} {t u : TT} {x y z v : V} {D : Ends} {tu tw tz : TS}
/-- an if whose two ways meet again -/
theorem q_ifM {b : Bool} (M : L2.St → Hp → Prop) (h : EvT t σ H b) (h1 : b = true → ∀ H1, Ex H H1 → ∀ N : L2.St → Hp → Prop, (∀ σ' H', M σ' H' → N σ' H') → tu { D with nx := N } σ H1)
    (h2 : b = false → ∀ H1, Ex H H1 → ∀ N : L2.St → Hp → Prop, (∀ σ' H', M σ' H' → N σ' H') → tw { D with nx := N } σ H1) (k : ∀ σ' H', M σ' H' → tz D σ' H') : tSeq (tIfS t tu tw) tz D σ H :=
  s_if (D := { D with nx := tz D }) h (fun hb H1 e => h1 hb H1 e _ k) (fun hb H1 e => h2 hb H1 e _ k)
theorem s_next (h : D.nx σ H) : tNext D σ H := h
theorem eqD_true {p q : Addr} {xs : List V} {ds : List PyData} (hp : SqL K H p xs) (hq : SqL K H q xs) (hd : ∀ H1, Ex H H1 → DpAll K H1 xs ds) (hs : SeqAt.shaped (.list ds) = true) (hl : PyData.eqv (.list ds) (.list ds) = true) : RV (rEqD K) (.ref p) (.ref q) H (.bl true) := fun H1 e Q k =>
  ⟨.list ds, .list ds, .lst (ex_l e hp) (hd H1 e), .lst (ex_l e hq) (hd H1 e), hs, hs, by rw [hl]; exact k H1 (Ex.refl H1)⟩
end
end Kn
/-! ### rpartition; joins; more of lists -/
namespace Kn
open PySem PySem.Spec PyProof.Rows L2 Evl SX
def rRpart : V → List V → Hp → VK → Prop := fun x xs H Q => ∃ a b, x = .str a ∧ xs = [.str b] ∧ (b.length == 0) = false ∧ a.length ≤ sizeLine ∧ ∀ p, H p = none → Q (.ref p) (upd H p (.tup [.str (Txt.rpartition a b).1, .str (Txt.rpartition a b).2.1, .str (Txt.rpartition a b).2.2]))
theorem mt_rpartition {X : Cx} : MtR X "str.rpartition" rRpart := by
  intro pins s σ H x xs v us Q I rx rs h
  obtain ⟨a, b, rfl, rfl, hb, hz, h⟩ := h
  obtain ⟨t, rfl⟩ := rx
  cases rs with
  | cons r1 rs =>
    cases rs
    obtain ⟨u, rfl⟩ := r1
    refine call_meets F.slot_str_rpartition (typeIs_str _ _ _) F.entry_str_rpartition (F.args_str_rpartition_2 _ _) (meets_str_rpartition a b t u hb hz) ?_
    unfold Txt.rpartition at h
    revert h
    cases Builtin.Str.lastOccurrence a b 0 a.length with
    | none => intro h; exact laid_parts I h
    | some i => intro h; exact laid_parts I h
section
variable {K : PySem.W.Frag} {σ : L2.St} {H H' : Hp} {ta tb te tc : TE} {t u : TT} {x y z v : V}
theorem ev_rpart0 {l m : List Nat} (ha : Ev ta σ H (.str (S l))) (hb : Ev tb σ H (.str (S m))) (hm : m ≠ []) (hl : l.length ≤ 100000) : Ev (tOp (rIxT K) (tM1 rRpart ta tb) (tC (.int 0))) σ H (.str (Txt.rpartition (S l) (S m)).1) := fun H1 e Q q =>
  ha H1 e _ fun H2 e2 => ⟨⟨_, rfl⟩, hb H2 (e.trans e2) _ fun H3 e3 => ⟨S l, S m, rfl, rfl, by
    rw [S_len]
    cases m with
    | nil => exact absurd rfl hm
    | cons a r => rfl, by rw [S_len]; exact sz_of hl, fun p hp =>
      ⟨p, _, 0, _, rfl, rfl, st_of upd_same, atI_nat (j := 0) rfl, q _ ((e2.trans e3).trans (Ex.new hp))⟩⟩⟩
theorem ev_joinV {s : List Nat} {ys : List (List Nat)} {p : Addr} (hs : Ev ta σ H (.str (S s))) (hl : Ev tb σ H (.ref p)) (hp : SqL K H p (ys.map fun l => V.str (S l))) (hz : (ys.map (·.length)).sum + ys.length * s.length ≤ 16777216) : Ev (tM1 (rJoin K) ta tb) σ H (.str (S (TL.joinL s ys))) := fun H1 e Q q =>
  hs H1 e _ fun H2 e2 => ⟨⟨_, rfl⟩, hl H2 (e.trans e2) _ fun H3 e3 => ⟨S s, p, ys.map S, rfl, rfl, .inl (by rw [List.map_map]; exact ex_l ((e.trans e2).trans e3) hp), by
    rw [SX.lens, List.length_map, S_len]
    exact hz, by
    rw [SX.join_S]
    exact q H3 (e2.trans e3)⟩⟩
theorem el_slTo {τ : Type} {g : τ → V} {ns : List τ} {j : Int} {p : Addr} {to tp : TO} (h : Ev te σ H (.ref p)) (h1 : EvO to σ H none) (h2 : EvO tp σ H (some j)) (hs : SqL K H p (ns.map g)) (b : Nat) (hj : j = (b : Int)) :
    EvL (tSl (rSlL K) te to tp) σ H ((ns.take b).map g) := by
  have e : cutV (ns.map g) none (some j) = (ns.take b).map g := by
    subst hj
    have k := cutV_nat (xs := ns.map g) 0 b
    unfold cutV at k ⊢
    rw [HT.sIx_none, HT.sIx_nat]
    rw [HT.sIx_nat, HT.sIx_nat, Nat.zero_min] at k
    rw [k, List.drop_zero, Nat.sub_zero, List.map_take]
  rw [← e]
  exact el_sl h h1 h2 hs
theorem ev_isiL {p : Addr} {xs : List V} (ha : Ev ta σ H (.ref p)) (h : H p = some (.lst xs)) : Ev (tCB (rIsi K) (tCons ta (tCons (tC (.ty "list")) tNil))) σ H (.bl true) := ev_isi (T := "list") ha (.base (.lst h)) (by decide +kernel) fun _ e => .base (.lst (e _ _ h))
theorem ev_isiS {l : Str} (ha : Ev ta σ H (.str l)) : Ev (tCB (rIsi K) (tCons ta (tCons (tC (.ty "str")) tNil))) σ H (.bl true) := ev_isi (T := "str") ha (.base (.str l)) (by decide +kernel) fun _ _ => .base (.str l)
theorem rv_ge {a b : Int} : RV (rI0 fun i j => .bl (decide (j ≤ i))) (.int a) (.int b) H (.bl (decide (b ≤ a))) := rv_I0
theorem rv_gt {a b : Int} : RV (rI0 fun i j => .bl (decide (j < i))) (.int a) (.int b) H (.bl (decide (b < a))) := rv_I0
theorem rv_pow {i j : Int} (h : CPow i j) : RV (rI CPow fun i j => .int (i ^ j.toNat)) (.int i) (.int j) H (.int (i ^ j.toNat)) := rv_I h
end
theorem joinL_snoc (s x : List Nat) : ∀ {l : List (List Nat)}, l ≠ [] → TL.joinL s (l ++ [x]) = TL.joinL s l ++ (s ++ x)
  | [], h => absurd rfl h
  | [p], _ => rfl
  | p :: q :: r, _ => by
    show p ++ (s ++ TL.joinL s ((q :: r) ++ [x])) = (p ++ (s ++ TL.joinL s (q :: r))) ++ (s ++ x)
    rw [joinL_snoc s x (List.cons_ne_nil q r)]
    simp only [List.append_assoc]
theorem joinL_ne {s p : List Nat} {r : List (List Nat)} (h : p ≠ []) : TL.joinL s (p :: r) ≠ [] := by
  cases r with
  | nil => exact h
  | cons q r =>
    intro z
    have : p ++ (s ++ TL.joinL s (q :: r)) = [] := z
    exact h (List.append_eq_nil_iff.mp this).1
theorem joinL_len (s : List Nat) : ∀ l : List (List Nat), (TL.joinL s l).length ≤ (l.map (·.length)).sum + l.length * s.length
  | [] => Nat.zero_le _
  | [p] => by
    show p.length ≤ p.length + 0 + 1 * s.length
    omega
  | p :: q :: r => by
    have ih := joinL_len s (q :: r)
    show (p ++ (s ++ TL.joinL s (q :: r))).length ≤ p.length + ((q :: r).map (·.length)).sum + ((q :: r).length + 1) * s.length
    rw [List.length_append, List.length_append, Nat.succ_mul]
    omega
theorem sum_le {l : List (List Nat)} {n : Nat} (h : ∀ p ∈ l, p.length ≤ n) : (l.map (·.length)).sum ≤ l.length * n := by
  induction l with
  | nil => simp
  | cons p r ih =>
    have h1 := h p List.mem_cons_self
    have h2 := ih fun q hq => h q (List.mem_cons_of_mem _ hq)
    rw [List.map_cons, List.sum_cons, List.length_cons, Nat.succ_mul]
    omega
theorem at_one {l : List Nat} {c i : Nat} : StrLaws.At (S l) (S [c]) (S l).length i ↔ l[i]? = some c := by
  rw [TL.at_iff (x := S l) (y := S [c]) (List.cons_ne_nil _ _)]
  show ((l.drop i).take 1 == [c]) = true ↔ l[i]? = some c
  rw [beq_iff_eq]
  constructor
  · intro h
    have e := congrArg (fun z : List Nat => z[0]?) h
    simpa using e
  · intro h
    obtain ⟨hi, e⟩ := List.getElem?_eq_some_iff.mp h
    rw [List.drop_eq_getElem_cons hi, e]
    rfl
theorem rpart_none {l : List Nat} {c : Nat} (h : c ∉ l) : (Txt.rpartition (S l) (S [c])).1 = S [] := by
  unfold Txt.rpartition
  rcases StrLaws.last_spec (S l) (S [c]) with ⟨h0, hn⟩ | ⟨i, h0, hi, hn⟩
  · rw [h0]
    rfl
  · exact absurd (List.mem_of_getElem? (at_one.mp hi)) h
theorem rpart_some {p q : List Nat} {c : Nat} (h : c ∉ q) : (Txt.rpartition (S (p ++ c :: q)) (S [c])).1 = S p := by
  have hp : (p ++ c :: q)[p.length]? = some c := by simp
  unfold Txt.rpartition
  rcases StrLaws.last_spec (S (p ++ c :: q)) (S [c]) with ⟨h0, hn⟩ | ⟨i, h0, hi, hn⟩
  · exact absurd (at_one.mpr hp) (hn _)
  · rw [h0]
    have e : i = p.length := by
      have h1 := at_one.mp hi
      rcases Nat.lt_trichotomy i p.length with z | z | z
      · exact absurd (at_one.mpr hp) (hn _ z)
      · exact z
      · rw [List.getElem?_append_right (by omega)] at h1
        obtain ⟨k, hk⟩ : ∃ k, i - p.length = k + 1 := ⟨i - p.length - 1, by omega⟩
        rw [hk, List.getElem?_cons_succ] at h1
        exact absurd (List.mem_of_getElem? h1) h
    subst e
    show PySem.Builtin.Str.strSub (S (p ++ c :: q)) 0 p.length = S p
    refine TL.ext_tl ?_
    rw [TL.tl_strSub]
    show ((p ++ c :: q).drop 0).take (p.length - 0) = p
    simp
end Kn
/-! ### rules that name the written part: for the elements of a comprehension -/
namespace Kn
open PySem PySem.Spec PyProof.Rows L2 Evl SX
section
variable {X : Cx} {K : PySem.W.Frag}
theorem sl_listK (h : X.K = K) : SlR X (rSlL K) := by subst h; exact sl_list
theorem sl_tupK (h : X.K = K) : SlR X (rSlT K) := by subst h; exact sl_tup
theorem ix_listK (h : X.K = K) : IxR X (rIxL K) := by subst h; exact ix_list
theorem ix_tupK (h : X.K = K) : IxR X (rIxT K) := by subst h; exact ix_tup
theorem cr_lenSeqK (h : X.K = K) : CallR X (.builtin "len") (rLenS K) := by subst h; exact cr_lenSeq
theorem cr_isiK (h : X.K = K) : CallR X (.builtin "isinstance") (rIsi K) := by subst h; exact cr_isi
theorem cr_allK (h : X.K = K) (hc : X.calm = true) : CallR X (.builtin "all") (rAll K) := by subst h; exact cr_all hc
theorem op_in_seqK (h : X.K = K) : OpR X (compareOp .In) (rIn K false) := by subst h; exact op_in_seq
theorem op_notIn_seqK (h : X.K = K) : OpR X (compareOp .NotIn) (rIn K true) := by subst h; exact op_notIn_seq
theorem pe_joinK {e : Expr} {to te : TE} (hK : X.K = K) (h : PE X e (tM1 (fun x xs H Q => ∃ a p, ∃ ys : List Str, x = .str a ∧ xs = [.ref p] ∧ (SqL X.K H p (ys.map V.str) ∨ SqT X.K H p (ys.map V.str)) ∧ (ys.map (·.length)).sum + ys.length * a.length ≤ 16777216 ∧ Q (.str (Txt.join a ys)) H) to te)) : PE X e (tM1 (rJoin K) to te) := by
  subst hK
  exact h
end
end Kn
/-! ### texts: split, count, startswith, replace; loops over signs -/
namespace Kn
open PySem PySem.Spec PyProof.Rows L2 Evl SX
def rSplit : V → List V → Hp → VK → Prop := fun x xs H Q => ∃ a b, x = .str a ∧ xs = [.str b] ∧ (b.length == 0) = false ∧ a.length + 2 ≤ sizeLine ∧ rNewStrs (Txt.split a b) H Q
theorem mt_split {X : Cx} : MtR X "str.split" rSplit := L2.mt_split
def rCount : V → List V → Hp → VK → Prop := fun x xs H Q => ∃ a b, x = .str a ∧ xs = [.str b] ∧ Q (.int (Txt.count a b)) H
theorem mt_count {X : Cx} : MtR X "str.count" rCount := L2.mt_count
def rStarts : V → List V → Hp → VK → Prop := fun x xs H Q => ∃ a b, x = .str a ∧ xs = [.str b] ∧ Q (.bl (Txt.startswith a b)) H
theorem mt_startswith {X : Cx} : MtR X "str.startswith" rStarts := L2.mt_startswith
def rEnds : V → List V → Hp → VK → Prop := fun x xs H Q => ∃ a b, x = .str a ∧ xs = [.str b] ∧ Q (.bl (Txt.endswith a b)) H
theorem mt_endswith {X : Cx} : MtR X "str.endswith" rEnds := L2.mt_endswith
/-- l cut at each c -/
def cut1 (c : Nat) (l : List Nat) : List (List Nat) := TL.spl [c] 0 [] l
theorem starts_one {l : List Nat} {c : Nat} : Txt.startswith (S l) (S [c]) = decide (l[0]? = some c) := by
  have h : StrLaws.At (S l) (S [c]) (S l).length 0 ↔ l[0]? = some c := at_one
  unfold Txt.startswith
  rw [Bool.eq_iff_iff, Bool.and_eq_true, decide_eq_true_eq, decide_eq_true_eq]
  exact h
theorem count_one {l : List Nat} {c : Nat} : Txt.count (S l) (S [c]) = cnt c l := count_is (S l) c
theorem spl_map {c : Nat} {f : Nat → Nat} (hc : ∀ d, f d = c ↔ d = c) : ∀ (l acc : List Nat), TL.spl [c] 0 (acc.map f) (l.map f) = (TL.spl [c] 0 acc l).map (List.map f)
  | [], acc => rfl
  | d :: r, acc => by
    by_cases e : d = c
    · have h1 : TL.pre [c] (d :: r) = true := by
        subst e
        exact TL.pre_self [d] r
      have h2 : TL.pre [c] (f d :: r.map f) = true := by
        have e2 := (hc d).mpr e
        rw [e2]
        exact TL.pre_self [c] (r.map f)
      rw [List.map_cons, TL.spl_hit h1, TL.spl_hit h2, List.map_cons]
      exact congrArg (fun z => acc.map f :: z) (spl_map hc r [])
    · have h1 : TL.pre [c] (d :: r) = false := TL.pre_of_head [] r e
      have h2 : TL.pre [c] (f d :: r.map f) = false := TL.pre_of_head [] _ fun z => e ((hc d).mp z)
      rw [List.map_cons, TL.spl_miss h1, TL.spl_miss h2, ← spl_map hc r (acc ++ [d]), List.map_append]
      rfl
theorem cut1_map {c : Nat} {f : Nat → Nat} (hc : ∀ d, f d = c ↔ d = c) (l : List Nat) : cut1 c (l.map f) = (cut1 c l).map (List.map f) := spl_map hc l []
/-- each sign but c is in a part -/
theorem spl_mem {c d : Nat} (hd : d ≠ c) : ∀ (l acc : List Nat), d ∈ acc ∨ d ∈ l → ∃ p ∈ TL.spl [c] 0 acc l, d ∈ p
  | [], acc, h => by
    rcases h with h | h
    · exact ⟨acc, List.mem_cons_self, h⟩
    · exact nomatch h
  | e :: r, acc, h => by
    by_cases ec : e = c
    · have h1 : TL.pre [c] (e :: r) = true := by
        subst ec
        exact TL.pre_self [e] r
      rw [TL.spl_hit h1]
      rcases h with h | h
      · exact ⟨acc, List.mem_cons_self, h⟩
      · rcases List.mem_cons.mp h with z | z
        · exact absurd (z.trans ec) hd
        · obtain ⟨p, hp, hm⟩ := spl_mem hd r [] (.inr z)
          exact ⟨p, List.mem_cons_of_mem _ hp, hm⟩
    · rw [TL.spl_miss (TL.pre_of_head [] r ec)]
      refine spl_mem hd r (acc ++ [e]) ?_
      rcases h with h | h
      · exact .inl (List.mem_append_left _ h)
      · rcases List.mem_cons.mp h with z | z
        · exact .inl (List.mem_append_right _ (by rw [z]; exact List.mem_cons_self))
        · exact .inr z
theorem cut1_mem {c d : Nat} (hd : d ≠ c) {l : List Nat} (h : d ∈ l) : ∃ p ∈ cut1 c l, d ∈ p := spl_mem hd l [] (.inr h)
theorem spl_bound (c : Nat) : ∀ (l acc : List Nat), (TL.spl [c] 0 acc l).length ≤ l.length + 1 ∧ ∀ p ∈ TL.spl [c] 0 acc l, p.length ≤ acc.length + l.length
  | [], acc => ⟨Nat.le_refl _, fun p hp => by rw [List.mem_singleton.mp hp]; exact Nat.le_add_right _ _⟩
  | e :: r, acc => by
    by_cases ec : e = c
    · have h1 : TL.pre [c] (e :: r) = true := by
        subst ec
        exact TL.pre_self [e] r
      have ih := spl_bound c r []
      rw [TL.spl_hit h1]
      refine ⟨Nat.succ_le_succ ih.1, fun p hp => ?_⟩
      rcases List.mem_cons.mp hp with z | z
      · rw [z]
        omega
      · have := ih.2 p z
        rw [List.length_cons]
        simp at this
        omega
    · have ih := spl_bound c r (acc ++ [e])
      rw [TL.spl_miss (TL.pre_of_head [] r ec)]
      refine ⟨by have := ih.1; rw [List.length_cons]; omega, fun p hp => ?_⟩
      have := ih.2 p hp
      rw [List.length_append] at this
      rw [List.length_cons]
      simp at this
      omega
theorem cut1_len (c : Nat) (l : List Nat) : (cut1 c l).length ≤ l.length + 1 := (spl_bound c l []).1
theorem cut1_part {c : Nat} {l p : List Nat} (h : p ∈ cut1 c l) : p.length ≤ l.length := by
  have := (spl_bound c l []).2 p h
  simpa using this
theorem repl_one {c d : Nat} : ∀ l : List Nat, StrLaws.replL [c] [d] l = l.map fun e => if e = c then d else e
  | [] => StrLaws.replL_nil
  | e :: r => by
    by_cases h : e = c
    · subst h
      rw [StrLaws.replL_hit (List.cons_ne_nil _ _) rfl, List.map_cons, if_pos rfl, ← repl_one r]
      rfl
    · rw [StrLaws.replL_miss (y := [c]) (show ¬ (e :: r).take [c].length = [c] from fun z => h (List.cons.inj (show e :: r.take 0 = [c] from z)).1), List.map_cons, if_neg h, repl_one r]
theorem replace_S {l : List Nat} {c d : Nat} : Txt.replace (S l) (S [c]) (S [d]) = S (l.map fun e => if e = c then d else e) := by
  refine TL.ext_tl ?_
  show (Txt.replace (S l) (S [c]) (S [d])).cps.toList = _
  exact (StrLaws.replace_list (show 1 ≤ (S [c]).length from Nat.le_refl 1)).trans (repl_one l)
section
variable {K : PySem.W.Frag} {σ : L2.St} {H H' : Hp} {ta tb te tc : TE} {t u : TT} {x y z v : V} {D : Ends} {tu tz : TS}
theorem el_split {l : List Nat} {c : Nat} (ha : Ev ta σ H (.str (S l))) (hb : Ev tb σ H (.str (S [c]))) (hc : c < 256) (hl : l.length ≤ 90000) : EvL (tM1 rSplit ta tb) σ H ((cut1 c l).map fun p => V.str (S p)) := fun H1 e Q q =>
  ha H1 e _ fun H2 e2 => ⟨⟨_, rfl⟩, hb H2 (e.trans e2) _ fun H3 e3 => ⟨S l, S [c], rfl, rfl, rfl, sz_of (by rw [S_len]; omega), fun p hp => by
    rw [SX.split_S (List.cons_ne_nil _ _) (by simp [hc]), List.map_map]
    exact q p _ (fresh_back (e2.trans e3) hp) ((e2.trans e3).trans (Ex.new hp)) upd_same⟩⟩
theorem ev_count {l : List Nat} {c : Nat} (ha : Ev ta σ H (.str (S l))) (hb : Ev tb σ H (.str (S [c]))) : Ev (tM1 rCount ta tb) σ H (.int (cnt c l)) := fun H1 e Q q =>
  ha H1 e _ fun H2 e2 => ⟨⟨_, rfl⟩, hb H2 (e.trans e2) _ fun H3 e3 => ⟨S l, S [c], rfl, rfl, by
    rw [count_one]
    exact q H3 (e2.trans e3)⟩⟩
theorem ev_starts {l : List Nat} {c : Nat} (ha : Ev ta σ H (.str (S l))) (hb : Ev tb σ H (.str (S [c]))) : Ev (tM1 rStarts ta tb) σ H (.bl (decide (l[0]? = some c))) := fun H1 e Q q =>
  ha H1 e _ fun H2 e2 => ⟨⟨_, rfl⟩, hb H2 (e.trans e2) _ fun H3 e3 => ⟨S l, S [c], rfl, rfl, by
    rw [starts_one]
    exact q H3 (e2.trans e3)⟩⟩
theorem ev_replC {l : List Nat} {s1 s2 : Str} {c d : Nat} (ha : Ev ta σ H (.str (S l))) (h1 : s1 = S [c]) (h2 : s2 = S [d]) (hl : l.length ≤ 100000) : Ev (CwR.tReplC ta s1 s2) σ H (.str (S (l.map fun e => if e = c then d else e))) := fun H1 e Q q => by
  subst h1 h2
  refine ha H1 e _ fun H2 e2 => ⟨S l, rfl, ?_, ?_⟩
  · rw [S_len, S_len]
    show l.length + (l.length + 1) * 1 ≤ 16777216
    omega
  · rw [replace_S]
    exact q H2 e2
theorem s_forS {l : List Nat} {ts : TE} {j : Nat} (h : Ev ts σ H (.str (S l))) (Pv : Nat → L2.St → Hp → Prop) (h0 : ∀ H1, Ex H H1 → Pv 0 σ H1)
    (hs : ∀ (i c : Nat) σ' H', l[i]? = some c → Pv i σ' H' → tu { D with nx := Pv (i + 1), ct := Pv (i + 1), bk := D.nx } (σ'.set j (some (.str (S [c])))) H') (hd : ∀ σ' H', Pv l.length σ' H' → D.nx σ' H') : tFor (iStr ts) (gName j) tu D σ H :=
  h H (Ex.refl H) _ fun H1 e => ⟨S l, rfl, for_it walk_str Pv (h0 H1 e) (fun _ _ _ _ _ => trivial) (fun i x σ' H2 H3 hi p y => by
    obtain ⟨rfl, c, hc, rfl⟩ := y
    have hc' : l[i]? = some c := by simpa [S] using hc
    exact hs i c σ' _ hc' p) (fun σ' H2 p => by
    have hl : (S l).cps.size = l.length := by simp [S]
    rw [hl] at p
    exact hd σ' H2 p)⟩
theorem q_forS {l : List Nat} {ts : TE} {j : Nat} (h : Ev ts σ H (.str (S l))) (Pv : Nat → L2.St → Hp → Prop) (h0 : ∀ H1, Ex H H1 → Pv 0 σ H1)
    (hs : ∀ (i c : Nat) σ' H', l[i]? = some c → Pv i σ' H' → tu { D with nx := Pv (i + 1), ct := Pv (i + 1), bk := tz D } (σ'.set j (some (.str (S [c])))) H') (hd : ∀ σ' H', Pv l.length σ' H' → tz D σ' H') : tSeq (tFor (iStr ts) (gName j) tu) tz D σ H :=
  s_forS (D := { D with nx := tz D }) h Pv h0 hs hd
end
/-! ### an expression behind which a token is out -/
section
variable {X : Cx} {a b e o : Expr} {ta tb te to : TE} {pos apos : Pos}
def PEb (X : Cx) (e : Expr) (t : TE) : Prop := ∀ (pins : List (Addr × Obj)) (s : Shared) (σ : L2.St) (H : Hp) (Q : VK), Inv X pins σ H s → t σ H Q → wpAny (model X.prog X.w) X.A (eval e X.env) (fun v s1 => 1 ≤ s1.toks ∧ EP X pins σ Q v s1) X.xe s
theorem keep_tok {α : Type} {t : Sem α} {Q : α → Shared → Prop} {E : Value → Shared → Prop} {P : Program} {w : World} {A : Around} {s : Shared} (h0 : 1 ≤ s.toks) (h : wpAny (model P w) A t Q E s) : wpAny (model P w) A t (fun a s' => 1 ≤ s'.toks ∧ Q a s') E s :=
  wpAny_mono (PySem.wpAny_toks h) (fun _ _ q => ⟨Nat.le_trans h0 q.1, q.2⟩) fun _ _ z => z.2
theorem peb_str {x : Str} {j : Nat} : PEb X (.Constant (.str x) j pos) (tC (.str x)) := fun _ s _ H _ I h => Calls.Constant_str ⟨by show 1 ≤ s.toks + 1; omega, .str x, H, I.tok _, ⟨_, rfl⟩, h⟩
theorem peb_m1 {id : String} {name : Str} {r : V → List V → Hp → VK → Prop} (slot : Slot "str" name id) (ty : typeOf (.builtin id) = pure (.type "method_descriptor")) (rule : MtR X id r) (ho : PE X o to) (he : PEb X e te)
    (hs : starEach [e] X.env = [(false, eval e X.env)] := by rfl) (hbase : attributeBase o name X.env (eval o X.env) = eval o X.env := by rfl) (hline : (apos.endLine == pos.line) = true := by rfl) :
    PEb X (.Call (.Attribute o name apos) [e] [] pos) (tM1 r to te) := by
  intro pins s σ H Q I h
  refine PySem.Call_method1 hbase hs hline (thn (ho.run pins s σ H _ I h) fun v s1 ⟨x, H1, I1, r1, q1⟩ => ?_)
  obtain ⟨⟨a, rfl⟩, q1⟩ := q1
  obtain ⟨t, rfl⟩ := _root_.id r1
  refine ⟨"str", _, F.plainAttrs_str, slot, ty, typeIs_str _ _ _, (fun _ e => nomatch e), Calls.callWith_builtin rfl (Calls.evalArgs_plain (Calls.spliced_cons ?_))⟩
  exact thn (he pins s1 σ H1 _ I1 q1) fun u s2 ⟨h2, y, H2, I2, r2, q2⟩ => Calls.spliced_nil (keep_tok h2 (rule pins s2 σ H2 _ [y] _ [u] Q I2 r1 (.cons r2 .nil) q2))
theorem peb_cmpR {op : CmpOp} {r : R2} (ho : OpR X (compareOp op) r) (ha : PEb X a ta) (hb : PE X b tb) (hm : behindInMarks op b = false) : PEb X (.Compare a [op] [b] pos) (tOp r ta tb) := by
  intro pins s σ H Q I h
  refine wpAny_Compare1 (thn (ha pins s σ H _ I h) fun v s1 ⟨h1, x, H1, I1, r1, q1⟩ => ?_) hm
  refine thn (keep_tok h1 (hb.run pins s1 σ H1 _ I1 q1)) fun u s2 ⟨h2, y, H2, I2, r2, q2⟩ => ?_
  exact keep_tok h2 (ho pins s2 σ H2 x y v u Q I2 r1 r2 q2)
theorem pe_andB (ha : PEb X a ta) (hb : L2.PET X b tb) : PE X (.BoolOp .And [a, b] pos) (tAndV ta tb) := by
  refine ⟨fun pins s σ H Q I h => ?_⟩
  refine BoolOp_and (thn (ha pins s σ H _ I h) fun v s1 ⟨h1, x, H1, I1, r1, q1⟩ => ?_)
  obtain ⟨c, rfl, q1⟩ := q1
  cases r1
  refine wpAny_truthy_bool ?_
  cases c with
  | true => exact BoolOp_one (hb pins s1 σ H1 Q h1 I1 q1)
  | false => exact ⟨.bl false, H1, I1, rfl, q1⟩
theorem pet_cl {k j : Nat} {x : Str} {sp : Sp} {p : Pos} {es : List Expr} {t : TA} (c : Cl X.prog X.w X.K X.mg X.base k x sp) (hr : Room j X.A) (hk : k ≤ j) (hg : Gl X x) (ha : L2.PAT X (e :: es) t)
    (hdb : (x == ("__debug__" : Str)) = false := by decide) (he : starEach (e :: es) X.env = (false, eval e X.env) :: starEach es X.env := by rfl) (hpl : (backTo pos (starEach es X.env)).any (·.1) = false := by rfl) :
    L2.PET X (.Call (.Name x p) (e :: es) [] pos) (tCall sp [] E0 t) := by
  intro pins s σ H Q h0 I h
  obtain ⟨f, fd, ps, F, hm, kp, b⟩ := c.ex
  refine wpAny_Call_Name_kw (ld_glob I hg hm ?_ hdb)
  refine PySem.W.callWith_K (h₀ := X.base) I.ok.mod.kin kp (thn (ha pos pins s σ H _ h0 I h) fun us s1 ⟨vs, H1, I1, r, q⟩ => ⟨I1.kIn, ?_⟩) he hpl
  exact run_fn F (hr.mono hk) b .nil pass0 I1 r q
end
end Kn
/-! ### methods, classes, dicts with text keys -/
namespace Kn
open PySem PySem.Spec PyProof.Rows L2 Evl SX
structure Mt (P : Program) (w : World) (K : PySem.W.Frag) (mg : Str → Option Value) (base : Heap) (k : Nat) (C : Addr) (m : Str) (sp : Sp) : Prop where
  ex : ∃ (f : Addr) (fd : FuncData) (ps : List Str), Cls K C ∧ Meth K C m f ∧ FnOk P w K mg base CX0 k f fd ps sp ∧ Binds K fd ps []
structure Mkr (P : Program) (w : World) (K : PySem.W.Frag) (mg : Str → Option Value) (base : Heap) (k : Nat) (x : Str) (C : Addr) (sp : Sp) : Prop where
  ex : ∃ (f : Addr) (fd : FuncData) (ps : List Str), Mk K C f ∧ FnOk P w K mg base CX0 k f fd ps sp ∧ mg x = some (.ref C) ∧ Binds K fd ps []
section
variable {X : Cx} {k j : Nat} {C : Addr} {x m : Str} {sp : Sp} {p pos apos : Pos} {e o : Expr} {es : List Expr} {ta : TE} {t : TA}
theorem pe_mt {pl : Sem Bool} (c : Mt X.prog X.w X.K X.mg X.base k C m sp) (hr : Room j X.A) (hk : k ≤ j) (he : PE X o ta) (ha : PA X (e :: es) t)
    (hst : starEach (e :: es) X.env = (false, eval e X.env) :: starEach es X.env := by rfl) (hpl : (backTo pos (starEach es X.env)).any (·.1) = false := by rfl)
    (ht : eval (.Call (.Attribute o m apos) (e :: es) [] pos) X.env = (do
      let ov ← eval o X.env
      standAt apos.atName
      let (f, first) ← holding [ov] (getMethod ov m pl)
      callWith pos f first (backTo pos (starEach (e :: es) X.env)) (backToKw pos (keywordEach [] X.env))) := by rfl) :
    PE X (.Call (.Attribute o m apos) (e :: es) [] pos) (tMeth C m sp [] E0 ta t) := by
  obtain ⟨f, fd, ps, hc, hm, F, b⟩ := c.ex
  exact pe_meth (pl := pl) he hc hm F (hr.mono hk) b .nil pass0 ha hst hpl ht
theorem pe_mt0 {pl : Sem Bool} (c : Mt X.prog X.w X.K X.mg X.base k C m sp) (hr : Room j X.A) (hk : k ≤ j) (he : PE X o ta)
    (ht : eval (.Call (.Attribute o m apos) [] [] pos) X.env = (do
      let ov ← eval o X.env
      standAt apos.atName
      let (f, first) ← holding [ov] (getMethod ov m pl)
      callWith pos f first (backTo pos (starEach [] X.env)) (backToKw pos (keywordEach [] X.env))) := by rfl) :
    PE X (.Call (.Attribute o m apos) [] [] pos) (tMeth C m sp [] E0 ta tNil) := by
  obtain ⟨f, fd, ps, hc, hm, F, b⟩ := c.ex
  exact pe_meth0 (pl := pl) he hc hm F (hr.mono hk) b .nil pass0 ht
theorem pe_mkr0 (c : Mkr X.prog X.w X.K X.mg X.base k x C sp) (hr : Room j X.A) (hk : k + 1 ≤ j) (hg : Gl X x) (hdb : (x == ("__debug__" : Str)) = false := by decide) :
    PE X (.Call (.Name x p) [] [] pos) (tMake C sp [] E0 tNil) := by
  obtain ⟨f, fd, ps, M, F, hm, b⟩ := c.ex
  exact pe_make0 M F (hr.mono hk) hg hm b .nil pass0 hdb
def rStrInt : List V → Hp → VK → Prop := fun xs H Q => ∃ i, xs = [.int i] ∧ i.natAbs.log2 < 1920 ∧ Q (.str (toString i)) H
theorem cr_strInt : CallR X (.type "str") rStrInt := call_str_int
def rSortD (K : PySem.W.Frag) : List V → Hp → VK → Prop := fun xs H Q => ∃ (a : Addr) (kvs : List (Key × V)) (ks : List Str), xs = [.ref a] ∧ Rd H a (.dK kvs) ∧ kvs.map (·.1) = ks.map Sum.inr ∧ ks.length < 64 ∧ ∀ ys p, ys.Perm ks → sortedS ys = true → H p = none → Q (.ref p) (upd H p (.lst (ys.map V.str)))
theorem cr_sortD (h : X.calm = true) : CallR X (.builtin "sorted") (rSortD X.K) := call_sortedD h
def rDictP (K : PySem.W.Frag) : List V → Hp → VK → Prop := fun xs H Q => ∃ (a : Addr) (ps : List Addr) (kvs : List (Key × V)), xs = [.ref a] ∧ SqL K H a (ps.map V.ref) ∧ Paired (fun p kv => SqT K H p [kV kv.1, kv.2]) ps kvs ∧ ∀ p, H p = none → Q (.ref p) (upd H p (.dK (mergeK [] kvs)))
theorem cr_dictP (h : X.calm = true) : CallR X (.type "dict") (rDictP X.K) := call_dictP h
end
section
variable {K : PySem.W.Frag} {σ : L2.St} {H H' : Hp} {ta tb td ty te tc tv : TE} {t u : TT} {x y z v : V} {D : Ends} {tu tw tz : TS} {C p d dx : Addr} {fs : List (Str × V)} {kvs : List (Key × V)} {k : List Nat}
theorem ev_fld {f : Str} (ha : Ev ta σ H (.ref p)) (ho : H p = some (.ins C dx fs)) (hc : Cls K C) (hn : NoAttr K C f) (hl : fs.lookup f = some v) : Ev (tFld K ta f) σ H v := fun H1 e Q q =>
  ha H1 e _ fun H2 e2 => ⟨p, C, dx, fs, v, rfl, (e.trans e2) _ _ ho, hc, hn, hl, q H2 e2⟩
theorem ev_meth {m : Str} {sp : Sp} {E : XK} {t : TA} {vs : List V} (ha : Ev ta σ H (.ref p)) (ho : H p = some (.ins C dx fs)) (hm : fs.lookup m = none) (h : EvA t σ H vs) (hs : SpV sp (.ref p :: vs) H z) : Ev (tMeth C m sp [] E ta t) σ H z := fun H1 e Q q =>
  ha H1 e _ fun H2 e2 => ⟨p, dx, fs, rfl, (e.trans e2) _ _ ho, hm, h H2 (e.trans e2) _ fun H3 e3 => by
    rw [List.append_nil]
    exact hs H3 ((e.trans e2).trans e3) Q (fun H4 e4 => q H4 ((e2.trans e3).trans e4)) E⟩
theorem ev_dget (h1 : Ev td σ H (.ref d)) (h2 : Ev ty σ H (.str (S k))) (hd : H d = some (.dK kvs)) (hv : valV kvs (Sum.inr (S k)) = some v) : Ev (tDGet td ty) σ H v := fun H1 e Q q =>
  h1 H1 e _ fun H2 e2 => h2 H2 (e.trans e2) _ fun H3 e3 => ⟨d, v, rfl, by
    have g := DGet.k (k := (Sum.inr (S k) : Key)) (((e.trans e2).trans e3) _ _ hd)
    rw [hv] at g
    exact g, q H3 (e2.trans e3)⟩
theorem ev_dget1 (h1 : Ev td σ H (.ref d)) (h2 : Ev ty σ H (.str (S k))) (hd : H d = some (.dK kvs)) : Ev (tDGet1 td ty) σ H ((valV kvs (Sum.inr (S k))).getD .non) := fun H1 e Q q =>
  h1 H1 e _ fun H2 e2 => ⟨d, rfl, .inl ⟨kvs, .inl ((e.trans e2) _ _ hd)⟩, h2 H2 (e.trans e2) _ fun H3 e3 => ⟨_, DGet.k (k := (Sum.inr (S k) : Key)) (((e.trans e2).trans e3) _ _ hd), q H3 (e2.trans e3)⟩⟩
theorem et_din (h2 : Ev ty σ H (.str (S k))) (h1 : Ev td σ H (.ref d)) (hd : H d = some (.dK kvs)) : EvT (tB (tDIn ty td)) σ H (valV kvs (Sum.inr (S k))).isSome := fun H1 e Q q =>
  h2 H1 e _ fun H2 e2 => h1 H2 (e.trans e2) _ fun H3 e3 => ⟨d, _, rfl, DGet.k (k := (Sum.inr (S k) : Key)) (((e.trans e2).trans e3) _ _ hd), _, rfl, q H3 (e2.trans e3)⟩
/-- d[k] = v -/
theorem s_dput (hv : Ev tv σ H v) (h1 : ∀ H1, Ex H H1 → Ev td σ H1 (.ref d)) (h2 : ∀ H1, Ex H H1 → Ev ty σ H1 (.str (S k))) (hd : H d = some (.dK kvs)) (hl : kvs.length < 100000) (q : ∀ H1, Ex H H1 → D.nx σ (upd H1 d (.dK (putK kvs (Sum.inr (S k)) v)))) : sDPut td ty tv D σ H :=
  hv H (Ex.refl H) _ fun H1 e1 => h1 H1 e1 H1 (Ex.refl H1) _ fun H2 e2 => h2 H2 (e1.trans e2) H2 (Ex.refl H2) _ fun H3 e3 => ⟨d, _, rfl, DPut.k (k := (Sum.inr (S k) : Key)) (((e1.trans e2).trans e3) _ _ hd) (sz_lt hl), q H3 ((e1.trans e2).trans e3)⟩
/-- d[k] = (a, ..), a new tuple -/
theorem s_dputU {xs : List V} (hv : EvU tv σ H xs) (h1 : ∀ H1, Ex H H1 → Ev td σ H1 (.ref d)) (h2 : ∀ H1, Ex H H1 → Ev ty σ H1 (.str (S k))) (hd : H d = some (.dK kvs)) (hl : kvs.length < 100000) (q : ∀ r H1, H r = none → Ex H H1 → H1 r = some (.tup xs) → D.nx σ (upd H1 d (.dK (putK kvs (Sum.inr (S k)) (.ref r))))) : sDPut td ty tv D σ H :=
  hv H (Ex.refl H) _ fun r H1 nr e1 hr => h1 H1 e1 H1 (Ex.refl H1) _ fun H2 e2 => h2 H2 (e1.trans e2) H2 (Ex.refl H2) _ fun H3 e3 => ⟨d, _, rfl, DPut.k (k := (Sum.inr (S k) : Key)) (((e1.trans e2).trans e3) _ _ hd) (sz_lt hl), q r H3 nr ((e1.trans e2).trans e3) (e3 _ _ (e2 _ _ hr))⟩
theorem et_isN (ha : Ev ta σ H x) : EvT (tTest (tOp rIsN ta (tC .non))) σ H (decide (x = .non)) := et_test (ev_op ha ev_c fun H1 _ Q q => ⟨rfl, q H1 (Ex.refl H1)⟩)
theorem et_notN (ha : Ev ta σ H x) : EvT (tTest (tOp rNotN ta (tC .non))) σ H (!decide (x = .non)) := et_test (ev_op ha ev_c fun H1 _ Q q => ⟨rfl, q H1 (Ex.refl H1)⟩)
theorem rv_ix0 {q : Addr} {xs : List V} {i : Nat} (h : SqT K H q xs) (hi : xs[i]? = some v) : RV (rIxT K) (.ref q) (.int (i : Int)) H v := rv_ixT h (atI_nat hi)
theorem ev_strInt {n : Nat} (ha : Ev ta σ H (.int (n : Int))) (hn : n < 1000) : Ev (tCB rStrInt (tCons ta tNil)) σ H (.str (S (TL.numL n))) := fun H1 e Q q =>
  ha H1 e _ fun H2 e2 => ⟨(n : Int), rfl, by
    rw [Int.natAbs_natCast]
    have : n.log2 < 10 := by
      by_cases h0 : n = 0
      · subst h0
        decide
      · exact (Nat.log2_lt h0).mpr (by omega)
    omega, by
    have z := num_S n
    rw [← z] at q
    exact q H2 e2⟩
end
end Kn
/-! ### lists of pairs with text keys: what a dict holds -/
namespace Kn
open PySem PySem.Spec PyProof.Rows L2 Evl SX
section
variable {α : Type}
def look (es : List (List Nat × α)) (k : List Nat) : Option α := (es.find? fun x => decide (x.1 = k)).map (·.2)
def put (es : List (List Nat × α)) (k : List Nat) (e : α) : List (List Nat × α) := if (es.any fun x => decide (x.1 = k)) = true then es.map (fun x => if x.1 = k then (x.1, e) else x) else es ++ [(k, e)]
theorem look_cons (x : List Nat × α) (r : List (List Nat × α)) (k : List Nat) : look (x :: r) k = if x.1 = k then some x.2 else look r k := by
  unfold look
  rw [List.find?_cons]
  by_cases h : x.1 = k
  · rw [decide_eq_true h, if_pos h]
    rfl
  · rw [decide_eq_false h, if_neg h]
theorem look_any (k : List Nat) : ∀ es : List (List Nat × α), (es.any fun x => decide (x.1 = k)) = (look es k).isSome
  | [] => rfl
  | x :: r => by
    rw [List.any_cons, look_cons, look_any k r]
    by_cases h : x.1 = k
    · rw [decide_eq_true h, if_pos h]
      rfl
    · rw [decide_eq_false h, if_neg h]
      rfl
theorem look_map (k j : List Nat) (e : α) : ∀ es : List (List Nat × α), look (es.map fun x => if x.1 = k then (x.1, e) else x) j = (look es j).map fun y => if j = k then e else y
  | [] => rfl
  | x :: r => by
    rw [List.map_cons, look_cons, look_cons, look_map k j e r]
    by_cases h : x.1 = k
    · rw [if_pos h]
      by_cases h2 : x.1 = j
      · rw [if_pos h2, if_pos h2, Option.map_some, if_pos (h2.symm.trans h)]
      · rw [if_neg h2, if_neg h2]
    · rw [if_neg h]
      by_cases h2 : x.1 = j
      · rw [if_pos h2, if_pos h2, Option.map_some, if_neg (fun z => h (h2.trans z))]
      · rw [if_neg h2, if_neg h2]
theorem look_snoc (k j : List Nat) (e : α) : ∀ es : List (List Nat × α), look es k = none → look (es ++ [(k, e)]) j = if j = k then some e else look es j
  | [], _ => by
    show look [(k, e)] j = _
    rw [look_cons]
    by_cases h : k = j
    · rw [if_pos h, if_pos h.symm]
    · rw [if_neg h, if_neg (fun z => h z.symm)]
  | x :: r, hn => by
    rw [look_cons] at hn
    by_cases h : x.1 = k
    · rw [if_pos h] at hn
      cases hn
    · rw [if_neg h] at hn
      rw [List.cons_append, look_cons, look_cons, look_snoc k j e r hn]
      by_cases h2 : x.1 = j
      · rw [if_pos h2, if_pos h2, if_neg (fun z => h (h2.trans z))]
      · rw [if_neg h2, if_neg h2]
theorem look_put (es : List (List Nat × α)) (k j : List Nat) (e : α) : look (put es k e) j = if j = k then some e else look es j := by
  unfold put
  rw [look_any]
  cases h : look es k with
  | none => exact look_snoc k j e es h
  | some y =>
    show look (es.map _) j = _
    rw [look_map]
    by_cases hj : j = k
    · subst hj
      rw [h, if_pos rfl, Option.map_some, if_pos rfl]
    · rw [if_neg hj]
      cases look es j with
      | none => rfl
      | some z => rw [Option.map_some, if_neg hj]
theorem put_len (es : List (List Nat × α)) (k : List Nat) (e : α) : (put es k e).length ≤ es.length + 1 := by
  unfold put
  split
  · rw [List.length_map]
    omega
  · rw [List.length_append]
    exact Nat.le_refl _
theorem look_mem {es : List (List Nat × α)} {k : List Nat} {e : α} (h : look es k = some e) : (k, e) ∈ es := by
  unfold look at h
  cases hf : es.find? fun x => decide (x.1 = k) with
  | none => rw [hf] at h; cases h
  | some x =>
    rw [hf] at h
    have h1 : x.1 = k := of_decide_eq_true (List.find?_some (p := fun x : List Nat × α => decide (x.1 = k)) hf)
    have h2 : x.2 = e := Option.some.inj h
    rw [← h1, ← h2]
    exact List.mem_of_find?_eq_some hf
theorem mem_look {es : List (List Nat × α)} {x : List Nat × α} (h : x ∈ es) : (look es x.1).isSome = true := by
  rw [← look_any, List.any_eq_true]
  exact ⟨x, h, decide_eq_true rfl⟩
theorem look_put_mem {es : List (List Nat × α)} {k : List Nat} {e : α} {x : List Nat × α} (h : x ∈ put es k e) : x ∈ es ∨ x.2 = e := by
  unfold put at h
  split at h
  · obtain ⟨y, hy, e2⟩ := List.mem_map.mp h
    by_cases h3 : y.1 = k
    · rw [if_pos h3] at e2
      exact .inr (by rw [← e2])
    · rw [if_neg h3] at e2
      exact .inl (by rw [← e2]; exact hy)
  · rcases List.mem_append.mp h with z | z
    · exact .inl z
    · exact .inr (by rw [List.mem_singleton.mp z])
end
/-- how pairs lie as a dict's: R tells which value stands for which thing -/
def Lies {α : Type} (R : α → V → Prop) (es : List (List Nat × α)) (kvs : List (Key × V)) : Prop := Paired (fun x (kv : Key × V) => kv.1 = Sum.inr (S x.1) ∧ R x.2 kv.2) es kvs
section
variable {α : Type} {R R' : α → V → Prop}
theorem key_eq {a b : List Nat} : ((Sum.inr (S a) : Key) = Sum.inr (S b)) ↔ a = b := ⟨fun h => S_inj (Sum.inr.inj h), fun h => by rw [h]⟩
theorem Lies.len {es : List (List Nat × α)} {kvs : List (Key × V)} (h : Lies R es kvs) : es.length = kvs.length := Paired.length h
theorem Lies.mono {es : List (List Nat × α)} {kvs : List (Key × V)} (h : Lies R es kvs) (f : ∀ a v, R a v → R' a v) : Lies R' es kvs := Paired.mapP h fun _ _ z => ⟨z.1, f _ _ z.2⟩
theorem Lies.look : ∀ {es : List (List Nat × α)} {kvs : List (Key × V)}, Lies R es kvs → ∀ k, (Kn.look es k = none ∧ valV kvs (Sum.inr (S k)) = none) ∨ ∃ e v, Kn.look es k = some e ∧ valV kvs (Sum.inr (S k)) = some v ∧ R e v
  | [], _, .nil, _ => .inl ⟨rfl, rfl⟩
  | x :: r, kv :: kvs, .cons h t, k => by
    rw [look_cons]
    by_cases hk : x.1 = k
    · rw [if_pos hk]
      refine .inr ⟨x.2, kv.2, rfl, valV_pos (h.1.trans (key_eq.mpr hk)), h.2⟩
    · rw [if_neg hk, valV_neg (fun z => hk (key_eq.mp (h.1.symm.trans z)))]
      exact Lies.look t k
theorem Lies.any {es : List (List Nat × α)} {kvs : List (Key × V)} (h : Lies R es kvs) (k : List Nat) : (kvs.any fun kv => decide (kv.1 = Sum.inr (S k))) = es.any fun x => decide (x.1 = k) := by
  rw [valV_any, look_any]
  rcases h.look k with ⟨a, b⟩ | ⟨e, v, a, b, _⟩
  · rw [a, b]
    rfl
  · rw [a, b]
    rfl
theorem Lies.mapped {k : List Nat} {e : α} {v : V} (hv : R e v) : ∀ {es : List (List Nat × α)} {kvs : List (Key × V)}, Lies R es kvs → Lies R (es.map fun x => if x.1 = k then (x.1, e) else x) (kvs.map fun kv => if kv.1 = (Sum.inr (S k) : Key) then (kv.1, v) else kv)
  | [], _, .nil => .nil
  | x :: r, kv :: kvs, .cons h t => by
    refine .cons ?_ (Lies.mapped hv t)
    by_cases hk : x.1 = k
    · dsimp only
      rw [if_pos hk, if_pos (h.1.trans (key_eq.mpr hk))]
      exact ⟨h.1, hv⟩
    · dsimp only
      rw [if_neg hk, if_neg (fun z => hk (key_eq.mp (h.1.symm.trans z)))]
      exact h
theorem Lies.snoc {k : List Nat} {e : α} {v : V} (hv : R e v) : ∀ {es : List (List Nat × α)} {kvs : List (Key × V)}, Lies R es kvs → Lies R (es ++ [(k, e)]) (kvs ++ [(Sum.inr (S k), v)])
  | [], _, .nil => .cons ⟨rfl, hv⟩ .nil
  | _ :: _, _ :: _, .cons h t => .cons h (Lies.snoc hv t)
theorem Lies.put {es : List (List Nat × α)} {kvs : List (Key × V)} {k : List Nat} {e : α} {v : V} (h : Lies R es kvs) (hv : R e v) : Lies R (Kn.put es k e) (putK kvs (Sum.inr (S k)) v) := by
  unfold Kn.put putK
  rw [h.any k]
  split
  · exact h.mapped hv
  · exact h.snoc hv
theorem Lies.keys : ∀ {es : List (List Nat × α)} {kvs : List (Key × V)}, Lies R es kvs → kvs.map (·.1) = (es.map fun x => S x.1).map Sum.inr
  | [], _, .nil => rfl
  | _ :: _, _ :: _, .cons h t => by
    rw [List.map_cons, List.map_cons, List.map_cons, h.1, Lies.keys t]
theorem Lies.get : ∀ {es : List (List Nat × α)} {kvs : List (Key × V)}, Lies R es kvs → ∀ (i : Nat) kv, kvs[i]? = some kv → ∃ x, es[i]? = some x ∧ kv.1 = Sum.inr (S x.1) ∧ R x.2 kv.2
  | [], _, .nil, _, _, h => by simp at h
  | x :: _, kv :: _, .cons h t, 0, kv', e => by
    cases Option.some.inj e
    exact ⟨x, rfl, h.1, h.2⟩
  | _ :: _, _ :: _, .cons h t, i + 1, kv', e => by
    obtain ⟨y, h1, h2⟩ := Lies.get t i kv' (by simpa using e)
    exact ⟨y, by simpa using h1, h2⟩
end
section
variable {K : PySem.W.Frag} {σ : L2.St} {H H' : Hp} {ta tb td ty te tc tv : TE} {t u : TT} {x y z v : V} {D : Ends} {tu tw tz : TS} {C p d dx : Addr} {fs : List (Str × V)} {kvs : List (Key × V)} {k : List Nat}
/-- y = [x for x in d.values() if t] -/
theorem s_lcVals {i j : Nat} {vs : List Nat} (f : Nat → Bool) (h1 : ∀ H1 : Hp, (∀ a o, a ≠ d → H a = some o → H1 a = some o) → Ev td σ H1 (.ref d)) (hd : H d = some (.dK kvs)) (hz : kvs.length ≤ 40000) (hw : ∀ x, wipe ((wipe σ vs).set j (some x)) vs = wipe σ vs)
    (ht : ∀ (i : Nat) (kv : Key × V) (H1 : Hp), (∀ a o, a ≠ d → H a = some o → H1 a = some o) → kvs[i]? = some kv → EvT t ((wipe σ vs).set j (some kv.2)) H1 (f i)) (he : ∀ (x : V) H1, Ev te ((wipe σ vs).set j (some x)) H1 x)
    (k : ∀ p H1, H p = none → Ex H H1 → H1 p = some (.lst (given kvs.length f fun i => (kvs[i]?.map (·.2)).getD .non)) → D.nx (σ.set i (some (.ref p))) H1) : tLock (tAsg (tLc (iVals td) (gName j) t te vs) (gName i)) D σ H := by
  refine ⟨d, .dK kvs, hd, trivial, fun od => ?_⟩
  have base : ∀ H1, Ex (upd H d (.frz od (.dK kvs))) H1 → ∀ a o, a ≠ d → H a = some o → H1 a = some o := fun H1 e a o ha h => e a o (by rw [upd_ne ha]; exact h)
  refine h1 _ (base _ (Ex.refl _)) _ (Ex.refl _) _ fun H1 e1 => ⟨d, od, kvs, rfl, e1 _ _ upd_same, fun Dl hD => ?_⟩
  refine lc_it walk_values (Cw H1 f (fun i => (kvs[i]?.map (·.2)).getD .non) Dl) ⟨hD, Ex.new hD, upd_same⟩ (fun i H2 _ q => q.2.1 _ _ (e1 _ _ upd_same)) (fun i x H2 H3 hi q y => ?_) (fun H2 q => ?_)
  · obtain ⟨rfl, ky, hy⟩ := y
    refine ⟨hw x, cw_turn q (by omega) (ht i (ky, x) H1 (base H1 e1) hy) (fun _ => ?_)⟩
    rw [hy]
    exact he x H1
  · have dn : H1 d = some (.frz od (.dK kvs)) := e1 _ _ upd_same
    have hd2 : H2 d = some (.frz od (.dK kvs)) := q.2.1 _ _ dn
    refine ⟨hd2, k Dl _ ?_ (fun a o h => ?_) ?_⟩
    · cases h : H Dl with
      | none => rfl
      | some o =>
        have ne : Dl ≠ d := fun z => by rw [z] at hD; rw [hD] at dn; cases dn
        have := e1 _ _ (by rw [upd_ne ne]; exact h)
        rw [hD] at this
        cases this
    · by_cases ha : a = d
      · rw [ha] at h ⊢
        rw [upd_same, ← hd, h]
      · rw [upd_ne ha]
        exact q.2.1 _ _ (base H1 e1 a o ha h)
    · have ne : Dl ≠ d := fun z => by rw [z] at hD; rw [hD] at dn; cases dn
      rw [upd_ne ne]
      exact q.2.2
/-- [(a, ..) for x in d if t]: new tuples -/
theorem ev_lcKeysT {j : Nat} {vs : List Nat} (f : Nat → Bool) (xs : Nat → List V) (h1 : ∀ H1, Ev td σ H1 (.ref d)) (hd : H d = some (.dK kvs)) (hz : kvs.length ≤ 40000) (hw : ∀ x, wipe ((wipe σ vs).set j (some x)) vs = wipe σ vs)
    (ht : ∀ (i : Nat) (kv : Key × V) (H1 : Hp) , kvs[i]? = some kv → EvT t ((wipe σ vs).set j (some (kV kv.1))) H1 (f i))
    (he : ∀ (i : Nat) (kv : Key × V) (H1 : Hp) (od : Obj), H1 d = some (.frz od (.dK kvs)) → kvs[i]? = some kv → f i = true → EvU te ((wipe σ vs).set j (some (kV kv.1))) H1 (xs i)) :
    ∀ H0, Ex H H0 → ∀ Q : VK, (∀ p H2 (ps : List Addr), H0 p = none → Ex H0 H2 → H2 p = some (.lst (ps.map V.ref)) → Paired (fun q v => H2 q = some (.tup v)) ps (((List.range kvs.length).filter f).map xs) → Q (.ref p) H2) → tLockE (tLc (iKeys td) (gName j) t te vs) σ H0 Q := by
  intro H0 e0 Q k
  have hd0 := e0 _ _ hd
  refine ⟨d, .dK kvs, hd0, trivial, fun od => ?_⟩
  refine h1 _ _ (Ex.refl _) _ fun H1 e1 => ⟨d, od, rfl, .inl ⟨kvs, e1 _ _ upd_same, fun Dl hD => ?_⟩⟩
  have dn : H1 d = some (.frz od (.dK kvs)) := e1 _ _ upd_same
  have ne : Dl ≠ d := fun z => by rw [z] at hD; rw [hD] at dn; cases dn
  refine lc_it walk_keys (fun i H' => Ex H1 H' ∧ ∃ ps : List Addr, H' Dl = some (.lst (ps.map V.ref)) ∧ ps.length ≤ i ∧ Paired (fun q v => H' q = some (.tup v)) ps (((List.range i).filter f).map xs)) ⟨Ex.new hD, [], upd_same, Nat.le_refl _, .nil⟩ (fun i H2 _ q => q.1 _ _ dn) (fun i x H2 H3 hi q y => ?_) (fun H2 q => ?_)
  · obtain ⟨rfl, ky, vv, hy, rfl⟩ := y
    obtain ⟨e2, ps, hl, hlen, hp⟩ := q
    refine ⟨hw _, ht i (ky, vv) _ hy _ (Ex.refl _) _ fun H3 e3 => ?_⟩
    cases hf : f i with
    | false =>
      show Ex H1 H3 ∧ _
      refine ⟨e2.trans e3, ps, e3 _ _ hl, by omega, ?_⟩
      rw [List.range_succ, List.filter_append, List.filter_cons, hf]
      show Paired _ ps (List.map xs (_ ++ []))
      rw [List.append_nil]
      exact Paired.mapP hp fun _ _ z => e3 _ _ z
    | true =>
      show te _ H3 fun y H4 => ∃ acc, _
      refine he i (ky, vv) H3 od (e3 _ _ (e2 _ _ dn)) hy hf H3 (Ex.refl _) _ fun r H4 nr e4 hr => ?_
      have hl4 : H4 Dl = some (.lst (ps.map V.ref)) := e4 _ _ (e3 _ _ hl)
      refine ⟨ps.map V.ref, hl4, sz_lt (by rw [List.length_map]; omega), Ex.mut ((e2.trans e3).trans e4) hD, ps ++ [r], ?_, ?_, ?_⟩
      · rw [List.map_append]
        exact upd_same
      · rw [List.length_append]
        show ps.length + 1 ≤ i + 1
        omega
      · have up : ∀ q w, H4 q = some (.tup w) → (upd H4 Dl (.lst (ps.map V.ref ++ [.ref r]))) q = some (.tup w) := fun q w hq => by
          rw [upd_ne (ne_of hq hl4 (by intro z; cases z))]
          exact hq
        rw [List.range_succ, List.filter_append, List.filter_cons, hf, List.map_append]
        have app : ∀ {F : Addr → List V → Prop} {as : List Addr} {bs : List (List V)} {a : Addr} {b : List V}, Paired F as bs → F a b → Paired F (as ++ [a]) (bs ++ [b]) := by
          intro F as bs a b hh hab
          induction hh with
          | nil => exact .cons hab .nil
          | cons h1 _ ih => exact .cons h1 ih
        exact app (Paired.mapP hp fun _ _ z => up _ _ (e4 _ _ (e3 _ _ z))) (up _ _ hr)
  · obtain ⟨e2, ps, hl, _, hp⟩ := q
    refine ⟨e2 _ _ dn, k Dl _ ps ?_ (fun a o h => ?_) ?_ (Paired.mapP hp fun q w z => ?_)⟩
    · cases h : H0 Dl with
      | none => rfl
      | some o =>
        have := e1 _ _ (by rw [upd_ne ne]; exact h)
        rw [hD] at this
        cases this
    · by_cases ha : a = d
      · rw [ha] at h ⊢
        rw [upd_same, ← hd0, h]
      · rw [upd_ne ha]
        exact e2 _ _ (e1 _ _ (by rw [upd_ne ha]; exact h))
    · rw [upd_ne ne]
      exact hl
    · have hdz : H2 d = some (.frz od (.dK kvs)) := e2 _ _ dn
      rw [upd_ne (ne_of z hdz (by intro w; cases w))]
      exact z
end
end Kn
namespace Kn
open PySem PySem.Spec PyProof.Rows L2 Evl SX
section
variable {K : PySem.W.Frag} {σ : L2.St} {H H' : Hp} {ta tb td ty te tc tv : TE} {t u : TT} {x y z v : V} {D : Ends} {tu tw tz : TS} {C p d dx : Addr} {fs : List (Str × V)} {kvs : List (Key × V)} {k : List Nat}
theorem q_dnew {i : Nat} (k : ∀ p, H p = none → tz D (σ.set i (some (.ref p))) (upd H p (.dK []))) : tSeq (tAsg tDNewK (gName i)) tz D σ H := k
theorem s_meth {m : Str} {sp : Sp} {E : XK} {tA : TA} {vs : List V} (ha : Ev ta σ H (.ref p)) (ho : H p = some (.ins C dx fs)) (hm : fs.lookup m = none) (h : EvA tA σ H vs) (k : ∀ H1, Ex H H1 → sp (.ref p :: vs) H1 (fun _ H2 => D.nx σ H2) E) : tDrop (tMeth C m sp [] E ta tA) D σ H :=
  ha H (Ex.refl H) _ fun H1 e1 => ⟨p, dx, fs, rfl, e1 _ _ ho, hm, h H1 e1 _ fun H2 e2 => by
    rw [List.append_nil]
    exact k H2 (e1.trans e2)⟩
theorem q_meth {m : Str} {sp : Sp} {E : XK} {tA : TA} {vs : List V} (ha : Ev ta σ H (.ref p)) (ho : H p = some (.ins C dx fs)) (hm : fs.lookup m = none) (h : EvA tA σ H vs) (k : ∀ H1, Ex H H1 → sp (.ref p :: vs) H1 (fun _ H2 => tz D σ H2) E) : tSeq (tDrop (tMeth C m sp [] E ta tA)) tz D σ H :=
  s_meth (D := { D with nx := tz D }) ha ho hm h k
/-- for k in sorted(d) -/
theorem q_forSD {ks : List (List Nat)} {j : Nat} (hv : Ev td σ H (.ref d)) (hd : H d = some (.dK kvs)) (hk : kvs.map (·.1) = (ks.map S).map Sum.inr) (hn : ks.length < 64) (Pv : List (List Nat) → Addr → Nat → L2.St → Hp → Prop)
    (h0 : ∀ ys p H1, ys.Perm ks → H p = none → Ex H H1 → H1 p = some (.lst (ys.map fun l => V.str (S l))) → Pv ys p 0 σ H1)
    (hl : ∀ ys p i σ' H', Pv ys p i σ' H' → SqL K H' p (ys.map fun l => V.str (S l)))
    (hs : ∀ ys p i l σ' H', ys.Perm ks → ys[i]? = some l → Pv ys p i σ' H' → tu { D with nx := Pv ys p (i + 1), ct := Pv ys p (i + 1), bk := tz D } (σ'.set j (some (.str (S l)))) H')
    (hend : ∀ ys p σ' H', ys.Perm ks → Pv ys p ys.length σ' H' → tz D σ' H') : tSeq (tFor (iList K (tCB (rSortD K) (tCons td tNil))) (gName j) tu) tz D σ H := by
  refine hv H (Ex.refl H) _ fun H1 e1 => ⟨d, kvs, ks.map S, rfl, .inl (e1 _ _ hd), hk, by rw [List.length_map]; exact hn, fun ys p hp _ hnew => ?_⟩
  have e : ys = (ys.map TL.tl).map S := by
    rw [List.map_map]
    exact (List.map_id' ys).symm.trans (List.map_congr_left fun x _ => (S_tl x).symm)
  have hperm : (ys.map TL.tl).Perm ks := by
    have h := hp.map TL.tl
    rw [map_S_tl] at h
    exact h
  have e2 : ys.map V.str = (ys.map TL.tl).map fun l => V.str (S l) := by
    rw [List.map_map]
    exact List.map_congr_left fun x _ => congrArg V.str (S_tl x).symm
  refine ⟨p, rfl, ⟨_, sq_of upd_same⟩, ?_⟩
  rw [e2]
  refine for_list (xs := (ys.map TL.tl).map fun l => V.str (S l)) (Pv (ys.map TL.tl) p) (h0 _ p _ hperm (fresh_back e1 hnew) (e1.trans (Ex.new hnew)) upd_same) (fun i σ' H' _ q => hl _ p i σ' H' q) (fun i x σ' H' hx q => ?_) (fun σ' H' q => ?_)
  · rw [List.getElem?_map] at hx
    cases h : (ys.map TL.tl)[i]? with
    | none => rw [h] at hx; cases hx
    | some l =>
      rw [h] at hx
      cases Option.some.inj hx
      exact hs _ p i l σ' H' hperm h q
  · rw [List.length_map] at q
    exact hend _ p σ' H' hperm q
end
/-! ### a dict made of pairs -/
def puts {α : Type} (acc L : List (List Nat × α)) : List (List Nat × α) := L.foldl (fun a x => put a x.1 x.2) acc
theorem look_puts {α : Type} {g : List Nat → Option α} : ∀ (L acc : List (List Nat × α)), (∀ x ∈ L, g x.1 = some x.2) → ∀ k, look (puts acc L) k = if k ∈ L.map (·.1) then g k else look acc k
  | [], acc, _, k => (if_neg (by simp)).symm
  | x :: r, acc, h, k => by
    show look (puts (put acc x.1 x.2) r) k = _
    rw [look_puts r _ (fun y hy => h y (List.mem_cons_of_mem _ hy)) k, look_put]
    by_cases h1 : k ∈ r.map (·.1)
    · rw [if_pos h1, if_pos (by rw [List.map_cons]; exact List.mem_cons_of_mem _ h1)]
    · rw [if_neg h1]
      by_cases h2 : k = x.1
      · rw [if_pos h2, if_pos (by rw [List.map_cons, h2]; exact List.mem_cons_self), h2, h x List.mem_cons_self]
      · rw [if_neg h2, if_neg (by rw [List.map_cons, List.mem_cons]; exact fun z => z.elim h2 h1)]
theorem puts_len {α : Type} : ∀ (L acc : List (List Nat × α)), (puts acc L).length ≤ acc.length + L.length
  | [], acc => Nat.le_refl _
  | x :: r, acc => by
    have h1 := puts_len r (put acc x.1 x.2)
    have h2 := put_len acc x.1 x.2
    show (puts (put acc x.1 x.2) r).length ≤ _
    rw [List.length_cons]
    omega
theorem Lies.puts {α : Type} {R : α → V → Prop} : ∀ {L : List (List Nat × α)} {kvs : List (Key × V)} {acc : List (List Nat × α)} {akvs : List (Key × V)}, Lies R L kvs → Lies R acc akvs → Lies R (Kn.puts acc L) (mergeK akvs kvs)
  | [], _, _, _, .nil, h => h
  | x :: r, kv :: kvs, acc, akvs, .cons h t, ha => by
    have h2 := ha.put (k := x.1) h.2
    rw [← h.1] at h2
    show Lies R (Kn.puts (Kn.put acc x.1 x.2) r) (mergeK (putK akvs kv.1 kv.2) kvs)
    exact Lies.puts (L := r) (kvs := kvs) t h2
theorem put_mem {α : Type} {es : List (List Nat × α)} {k : List Nat} {e : α} {x : List Nat × α} (h : x ∈ put es k e) : x ∈ es ∨ x = (k, e) := by
  unfold put at h
  split at h
  · obtain ⟨y, hy, e2⟩ := List.mem_map.mp h
    by_cases h3 : y.1 = k
    · rw [if_pos h3] at e2
      exact .inr (by rw [← e2, h3])
    · rw [if_neg h3] at e2
      exact .inl (by rw [← e2]; exact hy)
  · rcases List.mem_append.mp h with z | z
    · exact .inl z
    · exact .inr (List.mem_singleton.mp z)
theorem upd_none {H : Hp} {a b : Addr} {o : HO} (h : upd H a o b = none) : H b = none := by
  by_cases e : b = a
  · subst e
    rw [upd_same] at h
    cases h
  · rw [upd_ne e] at h
    exact h
theorem Paired.maps {α β γ : Type} {F : α → β → Prop} {f : γ → α} {g : γ → β} : ∀ (L : List γ), (∀ i ∈ L, F (f i) (g i)) → Paired F (L.map f) (L.map g)
  | [], _ => .nil
  | x :: r, h => .cons (h x List.mem_cons_self) (Paired.maps r fun i hi => h i (List.mem_cons_of_mem _ hi))
theorem ev_dgetF {σ : L2.St} {H : Hp} {td ty : TE} {d : Addr} {k : List Nat} {kvs : List (Key × V)} {v : V} {od : Obj} (h1 : Ev td σ H (.ref d)) (h2 : Ev ty σ H (.str (S k))) (hd : H d = some (.frz od (.dK kvs))) (hv : valV kvs (Sum.inr (S k)) = some v) : Ev (tDGet td ty) σ H v := fun H1 e Q q =>
  h1 H1 e _ fun H2 e2 => h2 H2 (e.trans e2) _ fun H3 e3 => ⟨d, v, rfl, .inl ⟨kvs, Sum.inr (S k), .inr ⟨od, ((e.trans e2).trans e3) _ _ hd⟩, rfl, hv.symm⟩, q H3 (e2.trans e3)⟩
end Kn

/-! ### own exceptions over an own base -/
namespace Kn
open PySem PySem.Spec PyProof.Rows L2 Evl SX
/-- what the base's __init__ asks of the own base class at B -/
structure BaseC (K : PySem.W.Frag) (B : Addr) : Prop where
  sp : PySem.W.specialIn K (.ref B) "__getattribute__" = some (some (.builtin "type.__getattribute__"))
  rd : PySem.W.readsIn K B (.type "type") = true
  fi : PySem.W.findCls K (.ref B) (.type "type") "__init__" = some (.val (.builtin "ValueError.__init__"))
theorem pe_beinit {X : Cx} {b : Str} {B : Addr} {e : Expr} {es : List Expr} {ta : TA} {p1 p2 pos : Pos} {pl : Sem Bool} (T : BaseC X.K B) (hg : Gl X b) (hm : X.mg b = some (.ref B)) (ha : PA X (e :: es) ta)
    (hdb : (b == ("__debug__" : Str)) = false := by decide)
    (hc : eval (.Call (.Attribute (.Name b p1) "__init__" p2) (e :: es) [] pos) X.env = (do
      let ov ← eval (.Name b p1) X.env
      standAt p2.atName
      let (f, first) ← holding [ov] (getMethod ov "__init__" pl)
      callWith pos f first (backTo pos (starEach (e :: es) X.env)) (backToKw pos (keywordEach [] X.env))) := by rfl)
    (he : starEach (e :: es) X.env = (false, eval e X.env) :: starEach es X.env := by rfl) (hpl : (backTo pos (starEach es X.env)).any (·.1) = false := by rfl) :
    PE X (.Call (.Attribute (.Name b p1) "__init__" p2) (e :: es) [] pos) (tVeI X.K ta) := by
  refine ⟨fun pins s σ H Q I h => ?_⟩
  refine PySem.W.methodCall_KW (ld_glob I hg hm ?_ hdb) hc
  refine PySem.W.method_cls I.kIn T.sp (PySem.W.cls_value I.kIn T.rd T.fi (by decide +kernel) ?_)
  show wpAny _ _ (callWith pos (Value.builtin "ValueError.__init__") [] (backTo pos (starEach (e :: es) X.env)) []) _ _ _
  refine PyProof.Rows.callWith_method1 (thn (ha.run pos pins _ σ H _ (I.tok _) h) fun us s1 ⟨vs, H1, I1, r1, a, C, ws, ev, hl, T, ea, q⟩ => ?_) he hpl
  subst ev
  cases r1 with
  | @cons _ u0 _ ur ra rw' =>
    obtain rfl : u0 = Value.ref a := ra
    have hlen : ur.length ≤ sizeLine := by
      rw [← Paired.length rw', sizeLine_eq]
      omega
    exact oinit_ok T I1 ea hlen fun s' J => ⟨.non, H1, J, rfl, q⟩
/-- isinstance(e, c), e the exception at a that the suite holds, with a dict -/
def rIsX (K : PySem.W.Frag) (a : Addr) (cls : Value) (d : Option Addr) : List V → Hp → VK → Prop := fun xs H Q => ∃ (D dd : Addr) (fs : List (Str × V)) (c : V) (cv : Value) (b : Bool),
  cls = .ref D ∧ d = some dd ∧ ExcC K D ∧ H dd = some (.xd fs) ∧ xs = [.ref a, c] ∧ (∀ u, RelV c u → u = cv) ∧ PySem.W.kitOne K (.ref D) cv = some b ∧ Q (.bl b) H
theorem cr_isX {X : Cx} {a : Addr} {oe : Obj} {cls : Value} {d : Option Addr} {pn : List (Addr × Obj)} (hz : Zc cls d oe) (hf : ∃ vs, oe.data = .fields vs) : CallR (X.suite a ((a, oe) :: pn)) (.builtin "isinstance") (rIsX X.K a cls d) := by
  intro pins s σ H xs us Q I r h
  obtain ⟨D, dd, fs, c, cv, b, rfl, rfl, C, hd, rfl, hcv, e, q⟩ := h
  obtain ⟨u0, u1, rfl, r0, r1⟩ := vals2 r
  obtain rfl : u0 = Value.ref a := r0
  obtain rfl := hcv _ r1
  obtain ⟨hget, _⟩ := I.pin (a, oe) (List.mem_append_left _ List.mem_cons_self)
  obtain ⟨vs, hv⟩ := hf
  obtain ⟨mA, hns, _⟩ := (I.hok dd _ hd : ObjOk X.prog X.w H s.heap dd (.xd fs))
  obtain ⟨od, ho, _⟩ := lookIn_ns hns
  have J : PySem.W.InstAt s.heap a oe D (some od) := ⟨hget, hz.1, by unfold PySem.W.notCls; rw [hv] <;> rfl, by rw [hz.2]; exact ho⟩
  obtain ⟨cd, hc, _⟩ := PySem.W.any_some C.hd
  exact PySem.W.kia_one (PySem.W.kitx_exc (by rw [hc]; rfl) C.hg C.hk C.hs C.ha C.hn C.ht C.hm) I.kIn J e (fun z => nomatch z) fun tk => ⟨.bl b, H, I.kept (t' := tk) fun _ _ z => z, rfl, q⟩
end Kn
/-! ### int(t, 2) -/
namespace Kn.Bi
open PySem PySem.Spec PyProof.Rows L2 PySem.NumText PySem.Calls
def IsBin (c : Nat) : Prop := c = 48 ∨ c = 49
theorem IsBin.hex {c : Nat} (h : IsBin c) : Hx.IsHex c := .inl (by unfold IsBin at h; omega)
theorem IsBin.lt {c : Nat} (h : IsBin c) : Hx.hv c < 2 := by
  rcases h with rfl | rfl <;> decide
def binNum (l : List Nat) : Nat := l.foldl (fun a c => a * 2 + Hx.hv c) 0
theorem step_bin {ds : Array Nat} {b : Bool} {c : Nat} (h : IsBin c) : PySem.NumText.step 2 (ds, b) c = some (ds.push (Hx.hv c), true) := by
  unfold PySem.NumText.step
  rw [if_neg (by rw [beq_iff_eq]; exact (Hx.hex_rng h.hex).2.2), Hx.digit_hex h.hex]
  exact if_pos h.lt
theorem fold_bin : ∀ (cs : List Nat) (ds : Array Nat), (∀ c ∈ cs, IsBin c) → cs.foldlM (PySem.NumText.step 2) (ds, true) = some (cs.foldl (fun acc c => acc.push (Hx.hv c)) ds, true)
  | [], _, _ => rfl
  | c :: cs, ds, h => by
    rw [List.foldlM_cons, step_bin (h c List.mem_cons_self)]
    exact fold_bin cs _ fun d hd => h d (List.mem_cons_of_mem _ hd)
theorem digits_bin {cs : List Nat} (h : ∀ c ∈ cs, IsBin c) (hne : cs ≠ []) : digits? 2 cs = some (cs.foldl (fun acc c => acc.push (Hx.hv c)) #[]) := by
  cases cs with
  | nil => exact absurd rfl hne
  | cons c cs =>
    unfold digits?
    rw [List.foldlM_cons, step_bin (h c List.mem_cons_self)]
    show (cs.foldlM (PySem.NumText.step 2) ((#[] : Array Nat).push (Hx.hv c), true)).bind _ = _
    rw [fold_bin cs _ fun d hd => h d (List.mem_cons_of_mem _ hd)]
    rfl
theorem push_bin : ∀ (cs : List Nat) (ds : Array Nat), (cs.foldl (fun acc c => acc.push (Hx.hv c)) ds).foldl (fun acc d => acc * 2 + d) 0 = cs.foldl (fun a c => a * 2 + Hx.hv c) (ds.foldl (fun acc d => acc * 2 + d) 0)
  | [], _ => rfl
  | c :: cs, ds => by
    rw [List.foldl_cons, push_bin cs, List.foldl_cons]
    congr 1
    simp
theorem based_bin : ∀ {cs : List Nat}, (∀ c ∈ cs, IsBin c) → based 2 cs = (2, false, cs)
  | [], _ => rfl
  | [a], h => by rcases h a List.mem_cons_self with rfl | rfl <;> rfl
  | a :: c :: r, h => by
    rcases h a List.mem_cons_self with rfl | rfl <;> rcases h c (List.mem_cons_of_mem _ List.mem_cons_self) with rfl | rfl <;> rfl
theorem read_bin {cs : List Nat} (h : ∀ c ∈ cs, IsBin c) (hne : cs ≠ []) : (int_private% "readNumeral") 0 2 cs = (int_private% "Numeral.value") ((binNum cs : Nat) : Int) := by
  have hx : ∀ c ∈ cs, Hx.IsHex c := fun c hc => (h c hc).hex
  have hr : ∀ c ∈ cs.reverse, Hx.IsHex c := fun c hc => hx c (List.mem_reverse.mp hc)
  refine (readNumeral_eq 0 2 cs).trans ?_
  rw [Hx.dropB hx, Hx.signH hx]
  show judge 0 false (based 2 cs).1 (based 2 cs).2.1 (digits? (based 2 cs).1 (((based 2 cs).2.2.reverse.dropWhile blank).reverse)) = _
  rw [based_bin h]
  show judge 0 false 2 false (digits? 2 ((cs.reverse.dropWhile blank).reverse)) = _
  rw [Hx.dropB hr, List.reverse_reverse, digits_bin h hne]
  show (int_private% "Numeral.value") (((cs.foldl (fun acc c => acc.push (Hx.hv c)) (#[] : Array Nat)).foldl (fun acc d => acc * 2 + d) 0 : Nat) : Int) = _
  have z : (#[] : Array Nat).foldl (fun acc d => acc * 2 + d) 0 = 0 := by first | rfl | simp
  rw [push_bin, z] <;> rfl
theorem gives_bin {x : PySem.Str} {u t : Tok} (hl : x.length ≤ 640) (h : ∀ c ∈ x.cps.toList, IsBin c) (hne : x.cps.toList ≠ []) :
    Gives (Builtin.«int.__new__» ⟨[.type "int", .str x u, .int 2 t], []⟩) (.int ((binNum x.cps.toList : Nat) : Int)) :=
  .of_wp fun M A E s Q hQ => by
    obtain ⟨hp, g, d, tk, os⟩ := s
    have f1 := F.conv_sub_int
    have f2 := F.madeHere_int
    have f6 : typeOf (.str x u) = pure (.type "str") := rfl
    obtain ⟨e1, e2⟩ := Hx.seen_hex fun c hc => (h c hc).hex
    have hs : (numSeenOf x).length ≤ 640 := by
      rw [e2, Array.length_toList]
      exact hl
    have hr : (int_private% "readNumeral") 0 2 (numSeenOf x) = (int_private% "Numeral.value") ((binNum x.cps.toList : Nat) : Int) := by
      rw [e2]
      exact read_bin h hne
    have ha : ((numSeenOf x).length == (numTextOf x).length) = true := by
      rw [e1, e2]
      exact beq_self_eq_true _
    have hk := Hx.Hid.mk (And.intro hs (And.intro hr ha))
    clear hs hr ha e1 e2 hl hne h
    repeat (any_goals (first
      | assumption
      | ((with_reducible show wpAny _ _ ((int_private% "intFromText") _ _ _) _ _ _); refine Hx.wp_textB hk.out.1 hk.out.2.1 hk.out.2.2 ?_)
      | wp_step))
    all_goals first | exact ⟨_, rfl, hQ⟩ | skip
/-- int(t, 2) -/
def rIntBin : List V → Hp → VK → Prop := fun xs H Q => ∃ l : List Nat, xs = [.str (SX.S l), .int 2] ∧ l ≠ [] ∧ l.length ≤ 640 ∧ (∀ c ∈ l, IsBin c) ∧ Q (.int ((binNum l : Nat) : Int)) H
theorem cr_intBin {X : Cx} : CallR X (.type "int") rIntBin := by
  intro pins s σ H xs us Q I r h
  obtain ⟨l, rfl, hne, hl, hx, q⟩ := h
  obtain ⟨u, w', rfl, r1, r2⟩ := vals2 r
  obtain ⟨t1, rfl⟩ := r1
  obtain ⟨t2, rfl⟩ := r2
  exact callType_new F.called_int F.newNe_int (Hx.typeCall_int_2 _ _) (Hx.newCall_int_2 _ _) (fun obj => F.initArgs_range_2 obj _ _) F.entry_int_new (gives_bin (x := SX.S l) (by rw [SX.S_len]; exact hl) hx hne).meets
    (show (Made.int ((binNum l : Nat) : Int)).post _ s from ⟨rfl, ⟨.int ((binNum l : Nat) : Int), H, I.tok _, ⟨_, rfl⟩, q⟩⟩)
end Kn.Bi
/-! ### f'{n:b}' -/
namespace Kn.Bi
open PySem PySem.Spec PyProof.Rows L2 PySem.NumText PySem.Calls PySem.W Builtin.Float
def digB (n : Nat) : List Nat := (Nat.toDigits 2 n).map Char.toNat
def fB : FormatSpec := { align := 62, type := some 98 }
theorem parse_b : parseFormatSpec (Str.ofString "b").cps.toList "int" 62 = .ok fB := by kernel_rfl
theorem digB_ne (n : Nat) : digB n ≠ [] := fun z => by
  have h1 := tDigits_len_ge 2 n
  have h2 : (digB n).length = (Nat.toDigits 2 n).length := List.length_map _
  rw [z, List.length_nil] at h2
  omega
theorem field_eq (ds : List Nat) (h : ds ≠ []) : intField' fB false [] ds [] 4 = SX.S ds := by
  unfold intField' fB
  cases ds with
  | nil => exact absurd rfl h
  | cons c r =>
    simp
    omega
theorem field_b {a : Int} (h0 : 0 ≤ a) : intField' fB (decide (a < 0)) [] (digB a.natAbs) [] 4 = SX.S (digB a.natAbs) := by
  rw [decide_eq_false (by omega)]
  exact field_eq _ (digB_ne _)
theorem meets_b {a : Int} {t u : Tok} (h0 : 0 ≤ a) (hl : (digB a.natAbs).length ≤ 100000) : Meets (Builtin.«int.__format__» ⟨[.int a t, .str "b" u], []⟩) (fun _ R s => ∀ t' k, R (.ok (.ret (.str (SX.S (digB a.natAbs)) t'))) { s with toks := k }) := by
  apply KPc.meets_of
  intro _ _ _ _ _ _ hQ
  unfold Builtin.«int.__format__»
  refine wpAny_bind (wpAny_of_eq (a := (_, _)) rfl ?_)
  refine wpAny_bind (wpAny_of_eq (a := _) rfl ?_)
  kxf_if
  refine wpAny_bind (wpAny_typeNameOf (T := "str") (typeIs_str _ _ _) (by decide) fun _ => ?_)
  refine wpAny_bind (wpAny_of_eq (a := some _) rfl ?_)
  kxf_if
  kxf_if
  refine wpAny_bind (wpAny_typeNameOfCut_int ?_)
  rw [parse_b]
  dsimp only
  rw [if_pos (by decide +kernel)]
  show wpAny _ _ (retStr (intField' fB (decide (a < 0)) [] (digB a.natAbs) [] 4)) _ _ _
  exact KXf.ret_text (field_b h0) (by rw [field_b h0, SX.S_len]; exact Evl.sz_of hl) hQ
/-- {x:b} -/
def tFmtB (te : TE) : TE := fun σ H Q => te σ H fun x H1 => ∃ i : Int, x = .int i ∧ 0 ≤ i ∧ (digB i.natAbs).length ≤ 100000 ∧ Q (.str (SX.S (digB i.natAbs))) H1
theorem pe_fmtB {X : Cx} {e sp : Expr} {te : TE} {pos : Pos} (he : PE X e te) (hs : PE X sp (tC (.str "b"))) : PE X (.FormattedValue e (-1) (some sp) pos) (tFmtB te) := by
  refine ⟨fun pins s σ H Q I h => ?_⟩
  refine wpAny_FormattedValue_spec (thn (he.run pins s σ H _ I h) fun v s1 ⟨x, H1, I1, r1, i, ex, h0, hl, q⟩ => ?_)
  subst ex
  obtain ⟨t, rfl⟩ := r1
  refine thn (hs.run pins s1 σ H1 (fun v H2 => v = .str "b" ∧ H2 = H1) I1 ⟨rfl, rfl⟩) fun r s2 ⟨y, H2, I2, r2, ey, eH⟩ => ?_
  subst ey
  subst eH
  obtain ⟨t2, rfl⟩ := r2
  exact ⟨_, t2, rfl, KXf.field_int rfl (by decide +kernel) (by decide +kernel) (fun u => meets_b h0 hl) fun t' k => ⟨.str (SX.S (digB i.natAbs)), H2, I2.tok _, ⟨_, rfl⟩, q⟩⟩
end Kn.Bi
/-! ### comprehensions over ranges -/
namespace Kn
open PySem PySem.Spec PyProof.Rows L2 Evl SX
section
variable {K : PySem.W.Frag} {σ : L2.St} {H H' : Hp} {ta tb te tc : TE} {t u : TT} {x y z v : V} {D : Ends} {tu tw tz : TS}
theorem el_lcR2 {ta : TA} {j : Nat} {vs : List Nat} {lo hi : Int} (f : Nat → Bool) (v : Nat → V) (h : EvA ta σ H [.int lo, .int hi]) (hb : 0 ≤ lo ∧ lo ≤ hi ∧ hi ≤ 40000) (hw : ∀ x, wipe ((wipe σ vs).set j (some x)) vs = wipe σ vs)
    (ht : ∀ (i : Nat) H1, Ex H H1 → lo + (i : Int) < hi → EvT t ((wipe σ vs).set j (some (.int (lo + (i : Int))))) H1 (f i)) (he : ∀ (i : Nat) H1, Ex H H1 → lo + (i : Int) < hi → f i = true → Ev te ((wipe σ vs).set j (some (.int (lo + (i : Int))))) H1 (v i)) :
    EvL (tLc (iRng2 ta) (gName j) t te vs) σ H (given (hi - lo).toNat f v) := fun H0 e Q q => h H0 e _ fun H1 e1 => ⟨lo, hi, rfl, ⟨by omega, by omega, by omega, by omega⟩, fun Dl hD =>
  lc_it walk_range (Cw H1 f v Dl) ⟨hD, Ex.new hD, upd_same⟩ (fun _ _ _ _ => trivial) (fun i x H2 H3 hi p y => by
    obtain ⟨rfl, rfl⟩ := y
    exact ⟨hw _, cw_turn p (by omega) (ht i H1 (e.trans e1) (by omega)) (fun hf => he i H1 (e.trans e1) (by omega) hf)⟩) (fun H' p => q Dl H' (fresh_back e1 p.1) (e1.trans p.2.1) p.2.2)⟩
theorem range7 (c : Nat) (hc : c ≤ 5000) : RgC 1 (((1 + 7 * c : Nat) : Int)) 7 c := by
  have e : Builtin.Range.rangeSize 1 (((1 + 7 * c : Nat) : Int)) 7 = (c : Int) := by
    unfold Builtin.Range.rangeSize
    rw [if_pos (by decide)]
    split <;> omega
  have fit : ∀ i : Int, 0 ≤ i → i ≤ 100000 → Builtin.Range.rangeFitsLong i = true := fun i h1 h2 => by
    unfold Builtin.Range.rangeFitsLong
    rw [decide_eq_true (by omega), decide_eq_true (by omega)]
    rfl
  refine ⟨by decide, by decide, ?_, e⟩
  unfold Builtin.Range.small
  rw [e, fit 1 (by decide) (by decide), fit _ (by omega) (by omega), fit 7 (by decide) (by decide), fit (c : Int) (by omega) (by omega), if_pos (by decide), fit _ (by omega) (by omega), Bool.or_true]
  rfl
theorem el_lcR7 {ta : TA} {j : Nat} {vs : List Nat} {c : Nat} (v : Nat → V) (h : EvA ta σ H [.int 1, .int (((1 + 7 * c : Nat) : Int)), .int 7]) (hc : c ≤ 5000) (hw : ∀ x, wipe ((wipe σ vs).set j (some x)) vs = wipe σ vs)
    (he : ∀ (i : Nat) H1, Ex H H1 → i < c → Ev te ((wipe σ vs).set j (some (.int (1 + (i : Nat) * 7)))) H1 (v i)) :
    EvL (tLc (iRng3 ta) (gName j) tYes te vs) σ H (given c (fun _ => true) v) := fun H0 e Q q => h H0 e _ fun H1 e1 => ⟨1, _, 7, c, rfl, range7 c hc, fun Dl hD =>
  lc_it walk_rangeC (Cw H1 (fun _ => true) v Dl) ⟨hD, Ex.new hD, upd_same⟩ (fun _ _ _ _ => trivial) (fun i x H2 H3 hi p y => by
    obtain ⟨rfl, rfl⟩ := y
    exact ⟨hw _, cw_turn p (by omega) et_yes (fun hf => he i H1 (e.trans e1) hi)⟩) (fun H' p => q Dl H' (fresh_back e1 p.1) (e1.trans p.2.1) p.2.2)⟩
theorem ev_intBin {l : List Nat} (h : EvA (tCons ta (tCons tb tNil)) σ H [.str (S l), .int 2]) (hne : l ≠ []) (hl : l.length ≤ 640) (hb : ∀ c ∈ l, Bi.IsBin c) : Ev (tCB Bi.rIntBin (tCons ta (tCons tb tNil))) σ H (.int ((Bi.binNum l : Nat) : Int)) := fun H1 e Q q =>
  h H1 e _ fun H2 e2 => ⟨l, rfl, hne, hl, hb, q H2 e2⟩
theorem ev_fmtB {n : Nat} (h : Ev te σ H (.int (n : Int))) (hl : (Bi.digB n).length ≤ 100000) : Ev (Bi.tFmtB te) σ H (.str (S (Bi.digB n))) := fun H1 e Q q =>
  h H1 e _ fun H2 e2 => ⟨(n : Int), rfl, by omega, hl, q H2 e2⟩
end
end Kn

/-! ### f'{n:07b}' -/
namespace Kn.Bi
open PySem PySem.Spec PyProof.Rows L2 PySem.NumText PySem.Calls PySem.W Builtin.Float
def f7 : FormatSpec := { fill := 48, align := 61, width := some 7, type := some 98 }
theorem parse_7 : parseFormatSpec (Str.ofString "07b").cps.toList "int" 62 = .ok f7 := by kernel_rfl
def pad7 (d : Nat) : List Nat := [48 + d / 64 % 2, 48 + d / 32 % 2, 48 + d / 16 % 2, 48 + d / 8 % 2, 48 + d / 4 % 2, 48 + d / 2 % 2, 48 + d % 2]
theorem field_7 : ∀ d : Nat, d < 128 → intField' f7 false [] (digB d) [] 4 = SX.S (pad7 d) := by decide +kernel
theorem meets_7 {d : Nat} {t u : Tok} (hd : d < 128) : Meets (Builtin.«int.__format__» ⟨[.int (d : Int) t, .str "07b" u], []⟩) (fun _ R s => ∀ t' k, R (.ok (.ret (.str (SX.S (pad7 d)) t'))) { s with toks := k }) := by
  apply KPc.meets_of
  intro _ _ _ _ _ _ hQ
  unfold Builtin.«int.__format__»
  refine wpAny_bind (wpAny_of_eq (a := (_, _)) rfl ?_)
  refine wpAny_bind (wpAny_of_eq (a := _) rfl ?_)
  kxf_if
  refine wpAny_bind (wpAny_typeNameOf (T := "str") (typeIs_str _ _ _) (by decide) fun _ => ?_)
  refine wpAny_bind (wpAny_of_eq (a := some _) rfl ?_)
  kxf_if
  kxf_if
  refine wpAny_bind (wpAny_typeNameOfCut_int ?_)
  rw [parse_7]
  dsimp only
  rw [if_pos (by decide +kernel)]
  show wpAny _ _ (retStr (intField' f7 (decide ((d : Int) < 0)) [] (digB (d : Int).natAbs) [] 4)) _ _ _
  have e : intField' f7 (decide ((d : Int) < 0)) [] (digB (d : Int).natAbs) [] 4 = SX.S (pad7 d) := by
    rw [decide_eq_false (by omega), Int.natAbs_natCast]
    exact field_7 d hd
  exact KXf.ret_text e (by rw [e, SX.S_len]; exact Evl.sz_of (by show 7 ≤ 100000; decide)) hQ
/-- {x:07b} of a small number -/
def tFmt7 (te : TE) : TE := fun σ H Q => te σ H fun x H1 => ∃ d : Nat, x = .int (d : Int) ∧ d < 128 ∧ Q (.str (SX.S (pad7 d))) H1
theorem pe_fmt7 {X : Cx} {e sp : Expr} {te : TE} {pos : Pos} (he : PE X e te) (hs : PE X sp (tC (.str "07b"))) : PE X (.FormattedValue e (-1) (some sp) pos) (tFmt7 te) := by
  refine ⟨fun pins s σ H Q I h => ?_⟩
  refine wpAny_FormattedValue_spec (thn (he.run pins s σ H _ I h) fun v s1 ⟨x, H1, I1, r1, d, ex, hd, q⟩ => ?_)
  subst ex
  obtain ⟨t, rfl⟩ := r1
  refine thn (hs.run pins s1 σ H1 (fun v H2 => v = .str "07b" ∧ H2 = H1) I1 ⟨rfl, rfl⟩) fun r s2 ⟨y, H2, I2, r2, ey, eH⟩ => ?_
  subst ey
  subst eH
  obtain ⟨t2, rfl⟩ := r2
  exact ⟨_, t2, rfl, KXf.field_int rfl (by decide +kernel) (by decide +kernel) (fun u => meets_7 hd) fun t' k => ⟨.str (SX.S (pad7 d)), H2, I2.tok _, ⟨_, rfl⟩, q⟩⟩
end Kn.Bi
/-! ### int(t, 2) of long texts -/
namespace Kn.Bi
open PySem PySem.Spec PyProof.Rows L2 PySem.NumText PySem.Calls
theorem wp_textL {M : Model} {A : Around} {E : Value → Shared → Prop} {s : Shared} {Q : Value → Shared → Prop} {v : Value} {text : List Nat} {B : Nat} {n : Int}
    (hK : PySem.W.Looks M s.heap (nsGet cStatics "sys.int_max_str_digits") none) (hs : ¬ (text.takeWhile (· != 0)).length ≤ 640)
    (hr : (int_private% "readNumeral") 4300 B (text.takeWhile (· != 0)) = (int_private% "Numeral.value") n)
    (ha : ((text.takeWhile (· != 0)).length == text.length) = true) (h : Q (.int n s.toks) { s with toks := s.toks + 1 }) :
    wpAny M A ((int_private% "intFromText") v text B) Q E s := by
  obtain ⟨hp, g, d, tk, os⟩ := s
  have hm : ∀ {Q : Nat → Shared → Prop} {E : Value → Shared → Prop}, Q 4300 ⟨hp, g, d, tk, os⟩ → wpAny M A Builtin.intMaxStrDigits Q E ⟨hp, g, d, tk, os⟩ := fun q => by
    unfold Builtin.intMaxStrDigits
    exact wpAny_bind (hK.here (wpAny_pure q))
  repeat (any_goals (first
    | assumption
    | (with_reducible refine wpAny_ite_false (decide_eq_false hs) ?_)
    | (with_reducible refine hm ?_)
    | (with_reducible refine wpAny_ite_true (decide_eq_true ha) ?_)
    | wp_step))
  all_goals (try rw [hr])
  all_goals (try dsimp only)
  repeat (any_goals (first
    | assumption
    | (with_reducible refine wpAny_ite_true (decide_eq_true ha) ?_)
    | wp_step))
theorem read_binL {cs : List Nat} (h : ∀ c ∈ cs, IsBin c) (hne : cs ≠ []) : (int_private% "readNumeral") 4300 2 cs = (int_private% "Numeral.value") ((binNum cs : Nat) : Int) := by
  have hx : ∀ c ∈ cs, Hx.IsHex c := fun c hc => (h c hc).hex
  have hr : ∀ c ∈ cs.reverse, Hx.IsHex c := fun c hc => hx c (List.mem_reverse.mp hc)
  refine (readNumeral_eq 4300 2 cs).trans ?_
  rw [Hx.dropB hx, Hx.signH hx]
  show judge 4300 false (based 2 cs).1 (based 2 cs).2.1 (digits? (based 2 cs).1 (((based 2 cs).2.2.reverse.dropWhile blank).reverse)) = _
  rw [based_bin h]
  show judge 4300 false 2 false (digits? 2 ((cs.reverse.dropWhile blank).reverse)) = _
  rw [Hx.dropB hr, List.reverse_reverse, digits_bin h hne]
  show (int_private% "Numeral.value") (((cs.foldl (fun acc c => acc.push (Hx.hv c)) (#[] : Array Nat)).foldl (fun acc d => acc * 2 + d) 0 : Nat) : Int) = _
  have z : (#[] : Array Nat).foldl (fun acc d => acc * 2 + d) 0 = 0 := by first | rfl | simp
  rw [push_bin, z] <;> rfl
def NoDig (h : Heap) : Prop := ∀ M : Model, PySem.W.Looks M h (nsGet cStatics "sys.int_max_str_digits") none
theorem meets_binL {x : PySem.Str} {u t : Tok} (hl : ¬ x.length ≤ 640) (h : ∀ c ∈ x.cps.toList, IsBin c) (hne : x.cps.toList ≠ []) :
    Meets (Builtin.«int.__new__» ⟨[.type "int", .str x u, .int 2 t], []⟩) (fun _ R s => NoDig s.heap ∧ R (.ok (.ret (.int ((binNum x.cps.toList : Nat) : Int) s.toks))) { s with toks := s.toks + 1 }) :=
  .of_wp fun prog w A R s ⟨hd, hQ⟩ => by
    obtain ⟨hp, g, d, tk, os⟩ := s
    have f1 := F.conv_sub_int
    have f2 := F.madeHere_int
    have f6 : typeOf (.str x u) = pure (.type "str") := rfl
    obtain ⟨e1, e2⟩ := Hx.seen_hex fun c hc => (h c hc).hex
    have hs : ¬ (numSeenOf x).length ≤ 640 := by
      rw [e2, Array.length_toList]
      exact hl
    have hr : (int_private% "readNumeral") 4300 2 (numSeenOf x) = (int_private% "Numeral.value") ((binNum x.cps.toList : Nat) : Int) := by
      rw [e2]
      exact read_binL h hne
    have ha : ((numSeenOf x).length == (numTextOf x).length) = true := by
      rw [e1, e2]
      exact beq_self_eq_true _
    have hk := Hx.Hid.mk (And.intro (hd (model prog w)) (And.intro hs (And.intro hr ha)))
    clear hs hr ha e1 e2 hl hne h
    repeat (any_goals (first
      | assumption
      | ((with_reducible show wpAny _ _ ((int_private% "intFromText") _ _ _) _ _ _); refine wp_textL hk.out.1 hk.out.2.1 hk.out.2.2.1 hk.out.2.2.2 ?_)
      | wp_step))
    all_goals first | exact ⟨_, rfl, hQ⟩ | skip
/-- int(t, 2) of any text -/
def rIntBinL : List V → Hp → VK → Prop := fun xs H Q => ∃ l : List Nat, xs = [.str (SX.S l), .int 2] ∧ l ≠ [] ∧ (∀ c ∈ l, IsBin c) ∧ Q (.int ((binNum l : Nat) : Int)) H
theorem cr_intBinL {X : Cx} (hd : PySem.W.nsIn X.K cStatics "sys.int_max_str_digits" = some none) : CallR X (.type "int") rIntBinL := by
  intro pins s σ H xs us Q I r h
  obtain ⟨l, rfl, hne, hx, q⟩ := h
  by_cases hl : l.length ≤ 640
  · exact cr_intBin pins s σ H _ us Q I r ⟨l, rfl, hne, hl, hx, q⟩
  · obtain ⟨u, w', rfl, r1, r2⟩ := vals2 r
    obtain ⟨t1, rfl⟩ := r1
    obtain ⟨t2, rfl⟩ := r2
    have nd : NoDig s.heap := fun M => PySem.W.looks_nsIn I.kIn hd
    exact callType_new F.called_int F.newNe_int (Hx.typeCall_int_2 _ _) (Hx.newCall_int_2 _ _) (fun obj => F.initArgs_range_2 obj _ _) F.entry_int_new (meets_binL (x := SX.S l) (by rw [SX.S_len]; exact hl) hx hne)
      ⟨nd, rfl, ⟨.int ((binNum l : Nat) : Int), H, I.tok _, ⟨_, rfl⟩, q⟩⟩
end Kn.Bi

/-! ### text * int -/
namespace Kn
open PySem PySem.Spec PyProof.Rows L2 Evl SX
def rMulS : R2 := fun x y H Q => ∃ (z : List Nat) (n : Nat), x = .str (S z) ∧ y = .int (n : Int) ∧ n ≤ 100000 ∧ z.length ≤ 100 ∧ Q (.str (S (List.replicate n z).flatten)) H
theorem rep_arr (z : List Nat) : ∀ (n : Nat) (a : Array Nat), ((List.replicate n z.toArray).foldl (· ++ ·) a).toList = a.toList ++ (List.replicate n z).flatten
  | 0, a => by simp
  | n + 1, a => by
    rw [List.replicate_succ, List.foldl_cons, rep_arr z n, List.replicate_succ, List.flatten_cons]
    simp
theorem op_mulS {X : Cx} : OpR X (binaryOp .Mult) rMulS := by
  intro pins s σ H x y v u Q I rx ry h
  obtain ⟨z, n, rfl, rfl, hn, hz, q⟩ := h
  obtain ⟨t, rfl⟩ := rx
  obtain ⟨t2, rfl⟩ := ry
  have hb : z.length * n ≤ 100 * 100000 := Nat.mul_le_mul hz hn
  have e : ((n : Int)).toNat = n := by omega
  have hl : decide ((S z).length * ((n : Int)).toNat > sizeLine) = false := by
    rw [e, S_len]
    exact decide_eq_false (Nat.not_lt.mpr (Nat.le_trans hb (by decide)))
  have p63 : (2 ^ 63 : Int) = 9223372036854775808 := by decide
  have g1 : decide ((n : Int) < -(2 ^ 63 : Int)) = false := decide_eq_false (by rw [p63]; omega)
  have g2 : decide ((n : Int) ≥ (2 ^ 63 : Int)) = false := decide_eq_false (by rw [p63]; omega)
  refine PySem.P.mul_str (by rw [g1, g2]; rfl) (fun h1 h2 => ?_) (fun _ _ => hl) ?_
  · rw [S_len]
    have h3 : ((z.length * n : Nat) : Int) ≤ ((10000000 : Nat) : Int) := Int.ofNat_le.mpr hb
    rw [Int.natCast_mul] at h3
    have h4 := (Int.le_ediv_iff_mul_le (show (0 : Int) < n by omega)).mpr (show ((z.length : Int)) * (n : Int) ≤ 2 ^ 63 - 1 by rw [p63]; omega)
    omega
  · have key : ∀ y : Str, y = S (List.replicate n z).flatten → ∀ t' k, EP X pins σ Q (.str y t') { s with toks := k } := fun y ey t' k => by
      subst ey
      exact ⟨.str (S (List.replicate n z).flatten), H, I.tok k, ⟨t', rfl⟩, q⟩
    split
    · next h1 =>
      have : n = 0 := by omega
      subst this
      exact ⟨by decide, key _ rfl _ _⟩
    · next h1 =>
      split
      · next h2 =>
        refine key _ ?_ _ s.toks
        rw [Bool.or_eq_true, beq_iff_eq, beq_iff_eq, S_len] at h2
        rcases h2 with h2 | h2
        · have : n = 1 := by omega
          subst this
          simp
        · have : z = [] := List.eq_nil_of_length_eq_zero h2
          subst this
          simp
      · rw [e]
        have ez : (⟨(List.replicate n (S z).cps).foldl (· ++ ·) #[]⟩ : Str) = S (List.replicate n z).flatten := by
          refine TL.ext_tl ?_
          show ((List.replicate n z.toArray).foldl (· ++ ·) #[]).toList = (List.replicate n z).flatten
          rw [rep_arr z n #[]]
          rfl
        refine ⟨?_, key _ ez _ _⟩
        rw [ez, S_len]
        simp
        exact Nat.le_trans (by rw [Nat.mul_comm]; exact hb) (by decide)
end Kn
/-! ### several except clauses, each with the same name -/
namespace Kn
open PySem PySem.Spec PyProof.Rows L2
def wManyAs (K : PySem.W.Frag) (i : Nat) (Wout : WX) (D : Ends) : List (Value × (Addr → Value → Option Addr → TS)) → WX
  | [] => Wout
  | (c, ts) :: r => fun cls d σ H => ∃ b, PySem.W.exmOne K cls c = some b ∧
      (b = true → ∀ a, H a = none → ts a cls d { nx := fun σ' H' => D.nx (σ'.set i none) H', rt := D.rt, bk := fun σ' H' => D.bk (σ'.set i none) H', ct := fun σ' H' => D.ct (σ'.set i none) H' } (σ.set i (some (.ref a))) H) ∧
      (b = false → wManyAs K i Wout D r cls d σ H)
inductive HdsAs (X : Cx) (n : Str) : List ExceptHandler → List (Value × (Addr → Value → Option Addr → TS)) → Prop
  | nil : HdsAs X n [] []
  | cons {x : Str} {c : Value} {ts : Addr → Value → Option Addr → TS} {b₀ : Stmt} {suite : List Stmt} {np pos' : Pos} {hds : List ExceptHandler} {l : List (Value × (Addr → Value → Option Addr → TS))} (hc : Names X x c)
      (hsu : ∀ (a : Addr) (oe : Obj) (cls : Value) (d : Option Addr) (pn : List (Addr × Obj)), Zc cls d oe → (∃ vs, oe.data = .fields vs) → PSs (X.suite a ((a, oe) :: pn)) (b₀ :: suite) (ts a cls d)) (r : HdsAs X n hds l) :
      HdsAs X n (.ExceptHandler (some (.Name x np)) (some n) (b₀ :: suite) pos' :: hds) ((c, ts) :: l)
section
variable {X : Cx} {body : List Stmt} {h₀ : ExceptHandler} {hds : List ExceptHandler} {l : List (Value × (Addr → Value → Option Addr → TS))} {pos : Pos} {tb : WX → TS} {Wout : WX} {n : Str} {i : Nat}
theorem ps_try_manyAs (hs : X.stack = X.env :: X.outer) (hf : X.env.frame = some X.env.locals) (hN : X.N.Nodup) (hi : X.N[i]? = some n) (hln : X.env.kindOf n = some .local) (tk : Takes X Wout)
    (hb : ∀ (W : WX) (pn : List (Addr × Obj)) (xe : Value → Shared → Prop), Takes (X.tr pn xe) W → PassesOwn (model X.prog X.w) X.A X.env xe → PSs (X.tr pn xe) body (tb W))
    (hh : HdsAs X n (h₀ :: hds) l) : PS X (.Try body (h₀ :: hds) [] [] pos) (fun D σ H => tb (wManyAs X.K i Wout D l) D σ H) := by
  refine ⟨fun pins s σ H D I h => ?_⟩
  have ok := I.ok
  have hfr : X.A.frames = some (X.env :: X.outer) := by rw [ok.frames, hs]
  have hloc : Loc X.env.scope n := .inl hln
  refine wpAny_Try_except ?_
  refine wpAny_mono ((hb (wManyAs X.K i Wout D l) (X.pn ++ pins) (fun e s₁ => wpAny (model X.prog X.w) X.A (noteFrame e X.env) (fun _ s₂ => wpAny (model X.prog X.w) X.A (setFlight e none) (fun _ s₃ =>
    wpAny (model X.prog X.w) X.A (handleBy e X.env (h₀ :: hds)) (SP X pins D) X.xe s₃) X.xe s₂) X.xe s₁) (fun u s' xx => ?_) PassesOwn.looking).run [] s σ H D (I.toTry _) h) (fun f s1 hsp => ?_) (fun e s1 he => he)
  · obtain ⟨a, B, sI, pins', σ', H', cls, d, rfl, J', nb, up, sky, na, os, ag, w⟩ := xx
    have J : Inv X pins σ' H' sI := J'.ofTry ok
    have sky' : Sky B (X.env :: X.outer) a (Zc cls d) X.env.locals s'.heap := by rw [← hs]; exact sky
    show wpAny (model X.prog X.w) X.A (noteFrame (.ref a) X.env) _ _ _
    refine Sky.land Zc.steady hfr hf sky' fun h3 fl3 up3 => ?_
    have J3 : Inv X pins σ' H' { s' with heap := h3 } := J.landed nb fl3.1 (up.trans up3) os ag
    obtain ⟨oe3, vs3, he3, hz3, hd3⟩ := fl3.there
    have notFr : ∀ {h : Heap} {o : Obj} {vs : Array Value}, h.FunFrames B (X.env :: X.outer) → h.get? a = some o → o.data = .fields vs → a ∉ frs (X.env :: X.outer) := fun {h o vs} ff e dd hm => by
      obtain ⟨_, o', e', hnf⟩ := ff.mem hm
      rw [e] at e'; cases e'
      exact hnf _ dd
    have nfr := notFr fl3.2.2.1 he3 hd3
    have nL : a ≠ X.env.locals := fun z => nfr (List.mem_filterMap.mpr ⟨X.env, List.mem_cons_self, by rw [hf, z]⟩)
    have nF : a ∉ X.fs := fun hm => by
      obtain ⟨e, he, q⟩ := List.mem_filterMap.mp hm
      exact nfr (List.mem_filterMap.mpr ⟨e, List.mem_cons_of_mem _ he, q⟩)
    have S3 := J3.suite he3 hd3 na nL nF
    have go : ∀ {hds' : List ExceptHandler} {l' : List (Value × (Addr → Value → Option Addr → TS))}, HdsAs X n hds' l' → wManyAs X.K i Wout D l' cls d σ' H' →
        wpAny (model X.prog X.w) X.A (handleBy (.ref a) X.env hds') (SP X pins D) X.xe { s' with heap := h3 } := by
      intro hds' l' hk
      induction hk with
      | nil =>
        intro w
        refine wpAny_handleBy_nil ?_
        obtain ⟨k1, k2, k3, oe, vs, T, oT, ts', he, hz, hd, h1, hr⟩ := id fl3
        unfold PySem.passOn
        refine wpAny_bind (wpAny_field he hd h1 ?_)
        rw [if_neg (show ¬ ((Value.ref T == Value.none) = true) from by simp)]
        have fin : wpAny (model X.prog X.w) X.A (setFlight (.ref a) X.env.frame) (fun _ s4 => wpAny (model X.prog X.w) X.A (throw (.ref a) : Sem Flow) (SP X pins D) X.xe s4) X.xe { s' with heap := h3 } := by
          rw [hf]
          refine HandSPX.setFlight_upZ fl3 fun h4 hh4 up4 => wpAny_throw (tk _ _ ?_)
          exact ⟨a, B, sI, pins, σ', H', cls, d, rfl, J, nb, (up.trans up3).trans up4, .inr (.inr (by rw [hs]; exact hh4)), na, os, ag, w⟩
        first
          | exact wpAny_bind (wpAny_pure (wpAny_bind fin))
          | exact wpAny_bind fin
      | @cons x c ts b₀ suite np pos' hds2 l2 hc hsu r ih =>
        intro w
        obtain ⟨b, hb1, hyes, hno⟩ := w
        refine wpAny_handleBy_cons (codeAny_handlers_test ?_) (by intro q; cases q)
        have LT : PySem.W.Looks (model X.prog X.w) h3 (typeOf (.ref a)) cls := fun A Q E s k q => wpAny_typeOf_ref (k _ _ he3) (by rw [hz3.1]; exact q)
        have LM := PySem.W.exm_one (M := model X.prog X.w) (J3.kIn) LT hb1
        have test : ∀ {Q : Value → Shared → Prop} {E : Value → Shared → Prop}, Q c { s' with heap := h3 } → wpAny (model X.prog X.w) (X.A.mark (some (.ref a))) (eval (.Name x np) X.env) Q E { s' with heap := h3 } := fun {Q E} q => by
          obtain ⟨hg, hdbg, hm | ⟨hm, hv, hnn⟩⟩ := hc
          · exact ld_glob (X := X.suite a ((a, oe3) :: (X.pn ++ pins))) S3 hg hm q hdbg
          · exact ld_blt (X := X.suite a ((a, oe3) :: (X.pn ++ pins))) S3 hg hm hv q hnn hdbg
        refine test (LM.here ?_)
        cases b with
        | true =>
          refine codeAny_handlers_suite_as ?_
          refine HandSPX.lands_againZ fl3 fun h4 fl4 up4 => ?_
          have J4 : Inv X pins σ' H' { s' with heap := h4 } := J.landed nb fl4.1 ((up.trans up3).trans up4) os ag
          obtain ⟨oe4, vs4, he4, hz4, hd4⟩ := fl4.there
          have S4 := J4.suite he4 hd4 na nL nF
          refine store_ok (X := X.suite a ((a, oe4) :: (X.pn ++ pins))) (v := .ref a) S4 hN hi hloc rfl (fun s5 S5 => ?_) (.inr hln)
          refine wpAny_mono ((hsu a oe4 cls d (X.pn ++ pins) hz4 ⟨_, hd4⟩).run [] s5 _ H' _ S5 (hyes rfl a na)) (fun f s6 hsp => ?_) (fun _ _ z => False.elim z)
          have end_ : ∀ {σ6 : L2.St} {H6 : Hp} {Q : Shared → Prop}, Inv (X.suite a ((a, oe4) :: (X.pn ++ pins))) [] σ6 H6 s6 → (∀ s7, Inv X pins (σ6.set i none) H6 s7 → Q s7) →
              wpAny (model X.prog X.w) X.A (do bindName X.env n .none; unbindBehindTheSuite X.env n pos') (fun _ s7 => Q s7) X.xe s6 := fun {σ6 H6 Q} S6 hq => gone_ok (S6.unsuite ok) hN hi hln hq
          cases f with
          | next =>
            obtain ⟨σ6, H6, S6, q6⟩ := hsp
            exact end_ S6 fun s7 J7 => ⟨_, _, J7, q6⟩
          | brk =>
            obtain ⟨σ6, H6, S6, q6⟩ := hsp
            exact end_ S6 fun s7 J7 => ⟨_, _, J7, q6⟩
          | cont =>
            obtain ⟨σ6, H6, S6, q6⟩ := hsp
            exact end_ S6 fun s7 J7 => ⟨_, _, J7, q6⟩
          | ret u =>
            obtain ⟨v6, σ6, H6, S6, r6, q6⟩ := hsp
            exact end_ S6 fun s7 J7 => ⟨_, _, _, J7, r6, q6⟩
        | false =>
          show wpAny _ X.A (handleBy (.ref a) X.env hds2) _ _ _
          exact ih (hno rfl)
    exact go hh w
  · cases f with
    | next =>
      obtain ⟨σ', H', J', q⟩ := hsp
      exact wpAny_execs_nil ⟨σ', H', J'.ofTry ok, q⟩
    | brk =>
      obtain ⟨σ', H', J', q⟩ := hsp
      exact ⟨σ', H', J'.ofTry ok, q⟩
    | cont =>
      obtain ⟨σ', H', J', q⟩ := hsp
      exact ⟨σ', H', J'.ofTry ok, q⟩
    | ret u =>
      obtain ⟨v, σ', H', J', r, q⟩ := hsp
      exact ⟨v, σ', H', J'.ofTry ok, r, q⟩
end
/-! ### defs and methods that may raise, called by name; the wish stands at the caller's slots -/
structure ClX (P : Program) (w : World) (K : PySem.W.Frag) (mg : Str → Option Value) (base : Heap) (k : Nat) (x : Str) (sp : Sp) : Prop where
  ex : ∃ (f : Addr) (fd : FuncData) (ps : List Str), FnOk P w K mg base (L2.CX P w) k f fd ps sp ∧ mg x = some (.ref f) ∧ PySem.W.keepIn K (.ref f) = true ∧ Binds K fd ps []
structure MtX (P : Program) (w : World) (K : PySem.W.Frag) (mg : Str → Option Value) (base : Heap) (k : Nat) (C : Addr) (m : Str) (sp : Sp) : Prop where
  ex : ∃ (f : Addr) (fd : FuncData) (ps : List Str), Cls K C ∧ Meth K C m f ∧ FnOk P w K mg base (L2.CX P w) k f fd ps sp ∧ Binds K fd ps []
/-- an own exception class of the program that is made by its own __init__ -/
structure Xk (P : Program) (w : World) (K : PySem.W.Frag) (mg : Str → Option Value) (base : Heap) (k : Nat) (x : Str) (C : Addr) (sp : Sp) : Prop where
  oe : OexC K C
  ex : ∃ (f : Addr) (fd : FuncData) (ps : List Str), PySem.W.findIn K (.ref C) "__init__" = some (some (.ref f)) ∧ PySem.W.typeIn K (.ref f) = some (.type "function") ∧ FnOk P w K mg base CX0 k f fd ps sp ∧ Binds K fd ps [] ∧ mg x = some (.ref C)
section
variable {P : Program} {w : World} {K : PySem.W.Frag} {mg : Str → Option Value} {base : Heap}
theorem clX_of {k : Nat} {x : Str} {sp : Sp} {st : Stmt} {f : Addr} {fd : FuncData} {ps : List Str} (ok : FnOk P w K mg base (L2.CX P w) k f fd ps sp) (F : Fun K x x st f fd) (g : mg x = some (.ref f)) (b : Binds K fd ps []) : ClX P w K mg base k x sp := ⟨f, fd, ps, ok, g, F.kp, b⟩
end
def tMethX (C : Addr) (m : Str) (sp : Sp) (E : L2.St → XK) (ta : TE) (t : TA) : TE := fun σ H Q => ta σ H fun x H1 => ∃ a dx fs, x = .ref a ∧ H1 a = some (.ins C dx fs) ∧ fs.lookup m = none ∧ t σ H1 fun vs H2 => sp (.ref a :: vs) H2 Q (E σ)
section
variable {X : Cx} {W : WX} {k j : Nat} {x m : Str} {sp : Sp} {p pos apos : Pos} {e o : Expr} {es : List Expr} {ta : TE} {t : TA} {C : Addr}
theorem pe_clX (c : ClX X.prog X.w X.K X.mg X.base k x sp) (hr : Room j X.A) (hk : k ≤ j) (hg : Gl X x) (tk : Takes X W) (ha : PA X (e :: es) t)
    (hdb : (x == ("__debug__" : Str)) = false := by decide) (he : starEach (e :: es) X.env = (false, eval e X.env) :: starEach es X.env := by rfl) (hpl : (backTo pos (starEach es X.env)).any (·.1) = false := by rfl) :
    PE X (.Call (.Name x p) (e :: es) [] pos) (tCallS sp (WE W) t) := by
  obtain ⟨f, fd, ps, F, hm, kp, b⟩ := c.ex
  exact pe_callS F (hr.mono hk) hg hm kp b (fun σ => passAt tk σ) ha hdb he hpl
theorem pe_mtX {pl : Sem Bool} (c : MtX X.prog X.w X.K X.mg X.base k C m sp) (hr : Room j X.A) (hk : k ≤ j) (tk : Takes X W) (he : PE X o ta) (ha : PA X (e :: es) t)
    (hst : starEach (e :: es) X.env = (false, eval e X.env) :: starEach es X.env := by rfl) (hpl : (backTo pos (starEach es X.env)).any (·.1) = false := by rfl)
    (ht : eval (.Call (.Attribute o m apos) (e :: es) [] pos) X.env = (do
      let ov ← eval o X.env
      standAt apos.atName
      let (f, first) ← holding [ov] (getMethod ov m pl)
      callWith pos f first (backTo pos (starEach (e :: es) X.env)) (backToKw pos (keywordEach [] X.env))) := by rfl) :
    PE X (.Call (.Attribute o m apos) (e :: es) [] pos) (tMethX C m sp (WE W) ta t) := by
  obtain ⟨f, fd, ps, hc, hm, F, b⟩ := c.ex
  refine ⟨fun pins s σ H Q I h => ?_⟩
  refine PySem.W.methodCall_KW (pl := pl) (thn (he.run pins s σ H _ I h) fun u s1 ⟨x, H1, I1, rx, a, dx, fs, ex, ea, l, q⟩ => ?_) ht
  subst ex
  obtain rfl : u = Value.ref a := rx
  refine getmeth_ok I1 ea hc hm l ?_
  refine PySem.W.callWith_K (first := [.ref a]) (h₀ := X.base) I.ok.mod.kin hm.kp (thn (ha.run pos pins s1 σ H1 _ I1 q) fun us s2 ⟨vs, H2, I2, r, q2⟩ => ⟨I2.kIn, ?_⟩) hst hpl
  exact run_fnS (us := .ref a :: us) (vs := .ref a :: vs) F (hr.mono hk) b (passAt tk σ) I2 (.cons rfl r) q2
/-- raise C(e, ..) -/
theorem ps_xk (c : Xk X.prog X.w X.K X.mg X.base k x C sp) (hr : Room j X.A) (hk : k + 1 ≤ j) (hc : X.calm = true) (tk : Takes X W) (hg : Gl X x) (ha : PA X (e :: es) t)
    (hdb : (x == ("__debug__" : Str)) = false := by decide) (he : starEach (e :: es) X.env = (false, eval e X.env) :: starEach es X.env := by rfl) (hpl : (backTo pos (starEach es X.env)).any (·.1) = false := by rfl) :
    PS X (.Raise (some (.Call (.Name x p) (e :: es) [] pos)) none apos) (fun _ σ H => tMkO C sp [] t σ H (fun cls d H' => W cls d σ H')) := by
  obtain ⟨fI, fd, ps, iC, tI, F, b, gC⟩ := c.ex
  exact ps_raise hc tk (pmk_oex c.oe iC tI F (hr.mono hk) b .nil pass0 hg gC ha hdb he hpl)
end
end Kn
/-! ### own exceptions: facts, f-strings, __init__ with one field and with four, raising -/
namespace Kn
open PySem PySem.Spec PyProof.Rows L2 Evl SX
section
variable {K : PySem.W.Frag}
theorem kit_ref {C B : Addr} {b : Bool} (hd : PySem.W.hasDictIn K B = true) (ht : PySem.W.typeIn K (.ref B) = some (.type "type")) (hs : PySem.W.subIn K (.ref C) (.ref B) = some b) (hcc : PySem.W.subIn K (.ref C) (.ref C) = some true) : PySem.W.kitOne K (.ref C) (.ref B) = some b := by
  unfold PySem.W.kitOne
  by_cases h : C = B
  · subst h
    rw [if_pos (beq_self_eq_true _)]
    exact hcc.symm.trans hs
  · rw [if_neg (fun z => h (Value.ref.inj (beq_iff_eq.mp z)))]
    obtain ⟨cd, hc, _⟩ := PySem.W.any_some hd
    show (if ((PySem.W.clsIn K B).isSome && PySem.W.typeIn K (.ref B) == some (.type "type")) = true then PySem.W.subIn K (.ref C) (.ref B) else none) = some b
    rw [if_pos (by rw [hc, ht]; rfl)]
    exact hs
structure Xc (K : PySem.W.Frag) (C B : Addr) : Prop where
  oe : OexC K C
  xc : ExcC K C
  xf : XfC K C
  me : PySem.W.exmOne K (.ref C) (.ref C) = some true
  kB : PySem.W.kitOne K (.ref C) (.ref B) = some true
end
section
variable {K : PySem.W.Frag} {σ : L2.St} {H H' H1 : Hp} {te t1 t2 t3 t4 : TE}
theorem ev_fmtS {l : List Nat} (h : Ev te σ H (.str (S l))) (hl : l.length ≤ 100000) : Ev (tFmt te) σ H (.str (S l)) := fun H1 e Q q => h H1 e _ fun H2 e2 => .inl ⟨S l, rfl, by rw [S_len]; exact sz_of hl, q H2 e2⟩
theorem ev_fmtI {n : Nat} (h : Ev te σ H (.int (n : Int))) (hn : n < 10 ^ 9) : Ev (tFmt te) σ H (.str (S (TL.numL n))) := fun H1 e Q q => h H1 e _ fun H2 e2 => .inr ⟨(n : Int), rfl, by
  rw [Int.natAbs_natCast]
  have : n.log2 < 100 := by
    by_cases h0 : n = 0
    · subst h0
      decide
    · exact (Nat.log2_lt h0).mpr (Nat.lt_trans hn (by decide))
  omega, by
  have z := num_S n
  rw [← z] at q
  exact q H2 e2⟩
theorem js_run : ∀ {ts : List TE} {ls : List (List Nat)}, Paired (fun t l => Ev t σ H (.str (S l))) ts ls → ∀ (acc : List Nat) (H1 : Hp), Ex H H1 → acc.length + (ls.map (·.length)).sum ≤ 100000 → ∀ Q : Str → Hp → Prop, (∀ H2, Ex H1 H2 → Q (S (acc ++ ls.flatten)) H2) → tJs ts (S acc) σ H1 Q
  | [], [], .nil, acc, H1, e, _, Q, q => by
    rw [List.flatten_nil, List.append_nil] at q
    exact q H1 (Ex.refl H1)
  | t :: ts, l :: ls, .cons h r, acc, H1, e, hz, Q, q => h H1 e _ fun H2 e2 => by
    rw [List.map_cons, List.sum_cons] at hz
    refine ⟨S l, rfl, ?_, ?_⟩
    · rw [S_cat, S_len, List.length_append]
      exact sz_of (by omega)
    · rw [S_cat]
      refine js_run r (acc ++ l) H2 (e.trans e2) (by rw [List.length_append]; omega) Q fun H3 e3 => ?_
      rw [List.append_assoc, ← List.flatten_cons]
      exact q H3 (e2.trans e3)
theorem ev_js {ts : List TE} {ls : List (List Nat)} (h : Paired (fun t l => Ev t σ H (.str (S l))) ts ls) (hz : (ls.map (·.length)).sum ≤ 100000) : Ev (fun σ H Q => tJs ts Str.empty σ H fun out H1 => Q (.str out) H1) σ H (.str (S ls.flatten)) := fun H1 e Q q => by
  have z : Str.empty = S [] := rfl
  show tJs ts Str.empty σ H1 _
  rw [z]
  exact js_run h [] H1 e (by rw [List.length_nil]; omega) _ fun H2 e2 => q H2 e2
/-- Base.__init__(self, text) -/
theorem q_beinit {D : Ends} {tz : TS} {a C : Addr} {ta tb : TE} {l : List Nat} (ha : Ev ta σ H (.ref a)) (hb : Ev tb σ H (.str (S l))) (oe : OexC K C) (ho : H a = some (exo a C none)) (k : ∀ H1, Ex H H1 → tz D σ H1) : tSeq (tDrop (tVeI K (tCons ta (tCons tb tNil)))) tz D σ H :=
  ha H (Ex.refl H) _ fun H1 e1 => hb H1 e1 _ fun H2 e2 => ⟨a, C, [.str (S l)], rfl, (by show 1 ≤ 1000; decide), oe, e2 _ _ (e1 _ _ ho), k H2 (e1.trans e2)⟩
/-- an exception's new dict at dx: the fields -/
def XMade (H H' : Hp) (a C dx : Addr) (fs : List (Str × V)) : Prop := H' a = some (exo a C (some dx)) ∧ H' dx = some (exd dx fs) ∧ ∀ b o, b ≠ a → b ≠ dx → H b = some o → H' b = some o
def sp_I1 (f : Str) (K : PySem.W.Frag) : Sp := fun vs H Q _ => ∃ (a C : Addr) (l : List Nat), vs = [.ref a, .str (S l)] ∧ l.length ≤ 90000 ∧ H a = some (exo a C none) ∧ OexC K C ∧ PySem.W.findIn K (.ref C) f = some none ∧
  ∀ dx H', H dx = none → dx ≠ a → XMade H H' a C dx [(f, .str (S l))] → Q .non H'
theorem xmade_new {a C dx : Addr} {f : Str} {v : V} (e : Ex H H1) (ne : dx ≠ a) : XMade H (upd (upd H1 dx (exd dx [(f, v)])) a (exo a C (some dx))) a C dx [(f, v)] :=
  ⟨upd_same, by rw [upd_ne ne, upd_same], fun b o h1 h2 h => by rw [upd_ne h1, upd_ne h2]; exact e _ _ h⟩
theorem XMade.more {a C dx : Addr} {fs : List (Str × V)} {f : Str} {v : V} (m : XMade H H1 a C dx fs) (ne : dx ≠ a) (e : Ex H1 H') : XMade H (upd H' dx (exd dx ((f, v) :: fs))) a C dx ((f, v) :: fs) :=
  ⟨by rw [upd_ne (Ne.symm ne)]; exact e _ _ m.1, upd_same, fun b o h1 h2 h => by rw [upd_ne h2]; exact e _ _ (m.2.2 b o h1 h2 h)⟩
theorem xm_raise {W : WX} {a C dx : Addr} {fs : List (Str × V)} {H2 : Hp} (e2 : Ex H H2) (na : H2 a = none) (nd : H2 dx = none) (m : XMade (upd H2 a (exo a C none)) H' a C dx fs) (hk : ∀ d H', Ex H H' → H' d = some (.xd fs) → W (.ref C) (some d) σ H') : W (.ref C) (some dx) σ (upd (del H' a) dx (.xd fs)) := by
  refine hk dx _ (fun b o hb => ?_) upd_same
  have hb2 := e2 _ _ hb
  have n1 := ne_of_none hb2 nd
  have n2 := ne_of_none hb2 na
  rw [upd_ne n1, del_ne n2]
  exact m.2.2 b o n2 n1 (by rw [upd_ne n2]; exact hb2)
theorem raise1 {W : WX} {C : Addr} {f : Str} {l : List Nat} (oe : OexC K C) (nf : PySem.W.findIn K (.ref C) f = some none) (hl : l.length ≤ 90000) (hv : Ev te σ H (.str (S l)))
    (hk : ∀ d H', Ex H H' → H' d = some (.xd [(f, .str (S l))]) → W (.ref C) (some d) σ H') : tMkO C (sp_I1 f K) [] (tCons te tNil) σ H (fun cls d H' => W cls d σ H') :=
  hv H (Ex.refl _) _ fun H2 e2 => ⟨(by show 1 ≤ 1000; decide), fun a na => ⟨a, C, l, rfl, hl, upd_same, oe, nf, fun dx H' hdx ne m =>
    ⟨rfl, dx, _, m.1, m.2.1, upd_none hdx, xm_raise e2 na (upd_none hdx) m hk⟩⟩⟩
theorem init1_body {D : Ends} {f : Str} {a C : Addr} {l m : List Nat} {tj : TE} (hj : Ev tj [some (.ref a), some (.str (S l))] H (.str (S m))) (ha : H a = some (exo a C none)) (oe : OexC K C) (nf : PySem.W.findIn K (.ref C) f = some none)
    (q : ∀ dx H', H dx = none → dx ≠ a → XMade H H' a C dx [(f, .str (S l))] → D.nx [some (.ref a), some (.str (S l))] H') : tSeq (tDrop (tVeI K (tCons (tVar 0) (tCons tj tNil)))) (tOst K f (tVar 0) (tVar 1)) D [some (.ref a), some (.str (S l))] H := by
  refine q_beinit (ev_var rfl) hj oe ha fun H1 e1 => ?_
  exact ⟨_, rfl, _, rfl, a, C, rfl, oe, nf, .inl ⟨e1 _ _ ha, fun dx hd ne => q dx _ (fresh_back e1 hd) ne (xmade_new e1 ne)⟩⟩
/-- path, line, column, reason -/
def fs4 (p : List Nat) (n c : Nat) (r : List Nat) : List (Str × V) := [("reason", .str (S r)), ("column", .int (c : Int)), ("line", .int (n : Int)), ("path", .str (S p))]
structure Nf4 (K : PySem.W.Frag) (C : Addr) : Prop where
  p : PySem.W.findIn K (.ref C) "path" = some none
  l : PySem.W.findIn K (.ref C) "line" = some none
  c : PySem.W.findIn K (.ref C) "column" = some none
  r : PySem.W.findIn K (.ref C) "reason" = some none
def Sm4 (p : List Nat) (n c : Nat) (r : List Nat) : Prop := p.length ≤ 9000 ∧ r.length ≤ 9000 ∧ n < 10 ^ 9 ∧ c < 10 ^ 9
def sp_I4 (K : PySem.W.Frag) : Sp := fun vs H Q _ => ∃ (a C : Addr) (p : List Nat) (n c : Nat) (r : List Nat), vs = [.ref a, .str (S p), .int (n : Int), .int (c : Int), .str (S r)] ∧ Sm4 p n c r ∧ H a = some (exo a C none) ∧ OexC K C ∧ Nf4 K C ∧
  ∀ dx H', H dx = none → dx ≠ a → XMade H H' a C dx (fs4 p n c r) → Q .non H'
theorem raise4 {W : WX} {C : Addr} {p r : List Nat} {n c : Nat} (oe : OexC K C) (nf : Nf4 K C) (hl : Sm4 p n c r) (h1 : Ev t1 σ H (.str (S p))) (h2 : Ev t2 σ H (.int (n : Int))) (h3 : Ev t3 σ H (.int (c : Int))) (h4 : Ev t4 σ H (.str (S r)))
    (hk : ∀ d H', Ex H H' → H' d = some (.xd (fs4 p n c r)) → W (.ref C) (some d) σ H') : tMkO C (sp_I4 K) [] (tCons t1 (tCons t2 (tCons t3 (tCons t4 tNil)))) σ H (fun cls d H' => W cls d σ H') :=
  ea_cons h1 (ea_cons h2 (ea_cons h3 (ea_cons h4 ea_nil))) H (Ex.refl _) _ fun H2 e2 => ⟨(by show 4 ≤ 1000; decide), fun a na => ⟨a, C, p, n, c, r, rfl, hl, upd_same, oe, nf, fun dx H' hdx ne m =>
    ⟨rfl, dx, _, m.1, m.2.1, upd_none hdx, xm_raise e2 na (upd_none hdx) m hk⟩⟩⟩
theorem init4_body {D : Ends} {a C : Addr} {p r m : List Nat} {n c : Nat} {tj : TE} {σ0 : L2.St} (hσ : σ0 = [some (.ref a), some (.str (S p)), some (.int (n : Int)), some (.int (c : Int)), some (.str (S r))]) (hj : Ev tj σ0 H (.str (S m))) (ha : H a = some (exo a C none)) (oe : OexC K C) (nf : Nf4 K C)
    (q : ∀ dx H', H dx = none → dx ≠ a → XMade H H' a C dx (fs4 p n c r) → D.nx σ0 H') : tSeq (tDrop (tVeI K (tCons (tVar 0) (tCons tj tNil)))) (tSeq (tOst K "path" (tVar 0) (tVar 1)) (tSeq (tOst K "line" (tVar 0) (tVar 2)) (tSeq (tOst K "column" (tVar 0) (tVar 3)) (tOst K "reason" (tVar 0) (tVar 4))))) D σ0 H := by
  subst hσ
  refine q_beinit (ev_var rfl) hj oe ha fun H1 e1 => ?_
  refine ⟨_, rfl, _, rfl, a, C, rfl, oe, nf.p, .inl ⟨e1 _ _ ha, fun dx hd ne => ?_⟩⟩
  have m1 := xmade_new (C := C) (f := "path") (v := .str (S p)) e1 ne
  refine ⟨_, rfl, _, rfl, a, C, rfl, oe, nf.l, .inr ⟨dx, _, m1.1, m1.2.1, (by show 1 ≤ 900; decide), ?_⟩⟩
  have m2 := m1.more (f := "line") (v := .int (n : Int)) ne (Ex.refl _)
  refine ⟨_, rfl, _, rfl, a, C, rfl, oe, nf.c, .inr ⟨dx, _, m2.1, m2.2.1, (by show 2 ≤ 900; decide), ?_⟩⟩
  have m3 := m2.more (f := "column") (v := .int (c : Int)) ne (Ex.refl _)
  refine ⟨_, rfl, _, rfl, a, C, rfl, oe, nf.r, .inr ⟨dx, _, m3.1, m3.2.1, (by show 3 ≤ 900; decide), ?_⟩⟩
  exact q dx _ (fresh_back e1 hd) ne (m3.more ne (Ex.refl _))
end
end Kn
/-! ### data at any depth, all of it tracked -/
namespace Kn
open PySem PySem.Spec PyProof.Rows L2 Evl SX
mutual
inductive Dt (H : Hp) : V → PyData → Prop
  | non : Dt H .non .none
  | bl (b : Bool) : Dt H (.bl b) (.bool b)
  | int (i : Int) : Dt H (.int i) (.int i)
  | str (x : Str) : Dt H (.str x) (.str x)
  | lst {a : Addr} {xs : List V} {ds : List PyData} : H a = some (.lst xs) → DtA H xs ds → Dt H (.ref a) (.list ds)
  | tup {a : Addr} {xs : List V} {ds : List PyData} : H a = some (.tup xs) → DtA H xs ds → Dt H (.ref a) (.tuple ds)
inductive DtA (H : Hp) : List V → List PyData → Prop
  | nil : DtA H [] []
  | cons {v : V} {vs : List V} {d : PyData} {ds : List PyData} : Dt H v d → DtA H vs ds → DtA H (v :: vs) (d :: ds)
end
mutual
theorem Dt.mono {H H1 : Hp} (e : Ex H H1) : ∀ {v : V} {d : PyData}, Dt H v d → Dt H1 v d
  | _, _, .non => .non
  | _, _, .bl b => .bl b
  | _, _, .int i => .int i
  | _, _, .str x => .str x
  | _, _, .lst h r => .lst (e _ _ h) (DtA.mono e r)
  | _, _, .tup h r => .tup (e _ _ h) (DtA.mono e r)
theorem DtA.mono {H H1 : Hp} (e : Ex H H1) : ∀ {vs : List V} {ds : List PyData}, DtA H vs ds → DtA H1 vs ds
  | _, _, .nil => .nil
  | _, _, .cons h r => .cons (Dt.mono e h) (DtA.mono e r)
end
mutual
theorem Dt.dp {K : PySem.W.Frag} {H : Hp} : ∀ {v : V} {d : PyData}, Dt H v d → Dp K H v d
  | _, _, .non => .non
  | _, _, .bl b => .bl b
  | _, _, .int i => .int i
  | _, _, .str x => .str x
  | _, _, .lst h r => .lst (sq_of h) (DtA.dp r)
  | _, _, .tup h r => .tup (st_of h) (DtA.dp r)
theorem DtA.dp {K : PySem.W.Frag} {H : Hp} : ∀ {vs : List V} {ds : List PyData}, DtA H vs ds → DpAll K H vs ds
  | _, _, .nil => .nil
  | _, _, .cons h r => .cons (Dt.dp h) (DtA.dp r)
end
mutual
/-- no list in it -/
def noL : PyData → Bool
  | .list _ => false
  | .dict _ => false
  | .tuple ds => noLA ds
  | .none => true
  | .bool _ => true
  | .int _ => true
  | .str _ => true
def noLA : List PyData → Bool
  | [] => true
  | d :: ds => noL d && noLA ds
end
mutual
/-- what has no list in it does not see that a list changes -/
theorem Dt.upd {H : Hp} {p : Addr} {o o' : HO} (hp : H p = some o) (ho : ∀ xs, o ≠ .tup xs) : ∀ {v : V} {d : PyData}, Dt H v d → noL d = true → Dt (L2.upd H p o') v d
  | _, _, .non, _ => .non
  | _, _, .bl b, _ => .bl b
  | _, _, .int i, _ => .int i
  | _, _, .str x, _ => .str x
  | _, _, .lst _ _, h => by
    unfold noL at h
    cases h
  | _, _, .tup h r, n => by
    unfold noL at n
    exact .tup (by rw [upd_ne (ne_of h hp fun z => ho _ z.symm)]; exact h) (DtA.upd hp ho r n)
theorem DtA.upd {H : Hp} {p : Addr} {o o' : HO} (hp : H p = some o) (ho : ∀ xs, o ≠ .tup xs) : ∀ {vs : List V} {ds : List PyData}, DtA H vs ds → noLA ds = true → DtA (L2.upd H p o') vs ds
  | _, _, .nil, _ => .nil
  | _, _, .cons h r, n => by
    unfold noLA at n
    rw [Bool.and_eq_true] at n
    exact .cons (Dt.upd hp ho h n.1) (DtA.upd hp ho r n.2)
end
theorem DtA.len {H : Hp} : ∀ {vs : List V} {ds : List PyData}, DtA H vs ds → vs.length = ds.length
  | _, _, .nil => rfl
  | _, _, .cons _ r => by rw [List.length_cons, List.length_cons, DtA.len r]
theorem DtA.snoc {H : Hp} {v : V} {d : PyData} (h : Dt H v d) : ∀ {vs : List V} {ds : List PyData}, DtA H vs ds → DtA H (vs ++ [v]) (ds ++ [d])
  | _, _, .nil => .cons h .nil
  | _, _, .cons a r => .cons a (DtA.snoc h r)
theorem DtA.app {H : Hp} {vs2 : List V} {ds2 : List PyData} (h : DtA H vs2 ds2) : ∀ {vs : List V} {ds : List PyData}, DtA H vs ds → DtA H (vs ++ vs2) (ds ++ ds2)
  | _, _, .nil => h
  | _, _, .cons a r => .cons a (DtA.app h r)
theorem DtA.get {H : Hp} : ∀ {vs : List V} {ds : List PyData}, DtA H vs ds → ∀ (i : Nat) (d : PyData), ds[i]? = some d → ∃ v, vs[i]? = some v ∧ Dt H v d
  | _, _, .cons (v := v) h r, 0, d', e => by
    cases Option.some.inj e
    exact ⟨v, rfl, h⟩
  | _, _, .cons h r, i + 1, d', e => by
    obtain ⟨v, e1, h1⟩ := DtA.get r i d' (by simpa using e)
    exact ⟨v, by simpa using e1, h1⟩
  | _, _, .nil, _, _, e => by simp at e
theorem DtA.drop {H : Hp} : ∀ {vs : List V} {ds : List PyData} (n : Nat), DtA H vs ds → DtA H (vs.drop n) (ds.drop n)
  | _, _, 0, h => h
  | _, _, n + 1, .nil => .nil
  | _, _, n + 1, .cons _ r => DtA.drop n r
theorem Dt.tup_inv {H : Hp} {v : V} {ds : List PyData} (h : Dt H v (.tuple ds)) : ∃ a xs, v = .ref a ∧ H a = some (.tup xs) ∧ DtA H xs ds := by
  cases h with
  | tup h r => exact ⟨_, _, rfl, h, r⟩
theorem Dt.lst_inv {H : Hp} {v : V} {ds : List PyData} (h : Dt H v (.list ds)) : ∃ a xs, v = .ref a ∧ H a = some (.lst xs) ∧ DtA H xs ds := by
  cases h with
  | lst h r => exact ⟨_, _, rfl, h, r⟩
theorem Dt.str_inv {H : Hp} {v : V} {x : Str} (h : Dt H v (.str x)) : v = .str x := by cases h; rfl
theorem Dt.int_inv {H : Hp} {v : V} {x : Int} (h : Dt H v (.int x)) : v = .int x := by cases h; rfl
theorem Dt.bl_inv {H : Hp} {v : V} {x : Bool} (h : Dt H v (.bool x)) : v = .bl x := by cases h; rfl
theorem Dt.non_inv {H : Hp} {v : V} (h : Dt H v .none) : v = .non := by cases h; rfl
def EvD (te : TE) (σ : L2.St) (H : Hp) (d : PyData) : Prop := ∀ H1, Ex H H1 → ∀ Q : VK, (∀ v H2, Ex H1 H2 → Dt H2 v d → Q v H2) → te σ H1 Q
def EvDA (ta : TA) (σ : L2.St) (H : Hp) (ds : List PyData) : Prop := ∀ H1, Ex H H1 → ∀ Q : List V → Hp → Prop, (∀ vs H2, Ex H1 H2 → DtA H2 vs ds → Q vs H2) → ta σ H1 Q
def RtD (H : Hp) (d : PyData) (Q : VK) : Prop := ∀ v H1, Ex H H1 → Dt H1 v d → Q v H1
theorem RtD.mono {H H1 : Hp} {d : PyData} {Q : VK} (q : RtD H d Q) (e : Ex H H1) : RtD H1 d Q := fun v H2 e2 h => q v H2 (e.trans e2) h
section
variable {K : PySem.W.Frag} {σ : L2.St} {H H' : Hp} {ta tb te : TE} {t u : TT} {x y z v : V} {d e' : PyData} {tas tr : TA} {D : Ends} {tz tu : TS} {ds : List PyData}
theorem evd_of (h : Ev te σ H v) (hd : Dt H v d) : EvD te σ H d := fun H1 e Q q => h H1 e _ fun H2 e2 => q v H2 e2 (hd.mono (e.trans e2))
theorem evd_is (h : EvD te σ H d) (e : d = e') : EvD te σ H e' := by rw [← e]; exact h
theorem EvD.mono (e : Ex H H') (h : EvD te σ H d) : EvD te σ H' d := fun H1 a Q q => h H1 (e.trans a) Q q
theorem evd_str {l : List Nat} (h : Ev te σ H (.str (S l))) : EvD te σ H (.str (S l)) := evd_of h (.str _)
theorem evd_int {i : Int} (h : Ev te σ H (.int i)) : EvD te σ H (.int i) := evd_of h (.int _)
theorem evd_bl {b : Bool} (h : Ev te σ H (.bl b)) : EvD te σ H (.bool b) := evd_of h (.bl _)
theorem evd_cS {s : Str} {l : List Nat} (h : s.cps.toList = l) : EvD (tC (.str s)) σ H (.str (S l)) := evd_str (ev_cS h)
theorem ev_ofS {l : List Nat} (h : EvD te σ H (.str (S l))) : Ev te σ H (.str (S l)) := fun H1 e Q q => h H1 e _ fun v H2 e2 hv => by
  rw [hv.str_inv]
  exact q H2 e2
theorem ev_ofI {i : Int} (h : EvD te σ H (.int i)) : Ev te σ H (.int i) := fun H1 e Q q => h H1 e _ fun v H2 e2 hv => by
  rw [hv.int_inv]
  exact q H2 e2
theorem eda_nil : EvDA tNil σ H [] := fun H1 _ _ q => q [] H1 (Ex.refl H1) .nil
theorem eda_cons (h : EvD te σ H d) (hr : EvDA tr σ H ds) : EvDA (tCons te tr) σ H (d :: ds) := fun H1 e Q q => h H1 e _ fun v H2 e2 hv => hr H2 (e.trans e2) _ fun vs H3 e3 hvs => q _ H3 (e2.trans e3) (.cons (hv.mono e3) hvs)
theorem evd_tup (h : EvDA tas σ H ds) (hl : ds.length ≤ 100000) : EvD (tTup tas) σ H (.tuple ds) := fun H1 e Q q => h H1 e _ fun vs H2 e2 hvs => ⟨by rw [hvs.len]; exact sz_of hl, fun p hp => q _ _ (e2.trans (Ex.new hp)) (.tup upd_same (hvs.mono (Ex.new hp)))⟩
theorem evd_lst (h : EvDA tas σ H ds) (hl : ds.length ≤ 100000) : EvD (tLst tas) σ H (.list ds) := fun H1 e Q q => h H1 e _ fun vs H2 e2 hvs => ⟨by rw [hvs.len]; exact sz_of hl, fun p hp => q _ _ (e2.trans (Ex.new hp)) (.lst upd_same (hvs.mono (Ex.new hp)))⟩
theorem ev_eqD (ha : EvD ta σ H d) (hb : EvD tb σ H e') (s1 : SeqAt.shaped d = true) (s2 : SeqAt.shaped e' = true) : Ev (tOp (rEqD K) ta tb) σ H (.bl (PyData.eqv d e')) := fun H1 e Q q =>
  ha H1 e _ fun v H2 e2 hv => hb H2 (e.trans e2) _ fun w H3 e3 hw => ⟨d, e', (hv.mono e3).dp, hw.dp, s1, s2, q H3 (e2.trans e3)⟩
theorem ev_neD (ha : EvD ta σ H d) (hb : EvD tb σ H e') (s1 : SeqAt.shaped d = true) (s2 : SeqAt.shaped e' = true) : Ev (tOp (rNeD K) ta tb) σ H (.bl (!PyData.eqv d e')) := fun H1 e Q q =>
  ha H1 e _ fun v H2 e2 hv => hb H2 (e.trans e2) _ fun w H3 e3 hw => ⟨d, e', (hv.mono e3).dp, hw.dp, s1, s2, q H3 (e2.trans e3)⟩
theorem evd_ifE {b : Bool} (h : EvT t σ H b) (h1 : b = true → EvD ta σ H d) (h2 : b = false → EvD tb σ H d) : EvD (tIf t ta tb) σ H d := fun H1 e Q q => h H1 e _ fun H2 e2 => by
  cases b with
  | true =>
    show ta σ H2 Q
    exact h1 rfl H2 (e.trans e2) Q fun v H3 e3 hv => q v H3 (e2.trans e3) hv
  | false =>
    show tb σ H2 Q
    exact h2 rfl H2 (e.trans e2) Q fun v H3 e3 hv => q v H3 (e2.trans e3) hv
theorem evd_call {sp : Sp} {E : XK} {vs : List V} (h : EvA tas σ H vs) (hs : ∀ H1, Ex H H1 → ∀ (Q : VK), RtD H1 d Q → ∀ E, sp vs H1 Q E) : EvD (tCall sp [] E tas) σ H d := fun H1 e Q q => h H1 e _ fun H2 e2 => by
  rw [List.append_nil]
  exact hs H2 (e.trans e2) Q (fun v H3 e3 hv => q v H3 (e2.trans e3) hv) E
theorem evd_callD {sp : Sp} {E : XK} {es : List PyData} (h : EvDA tas σ H es) (hs : ∀ H1 vs, Ex H H1 → DtA H1 vs es → ∀ (Q : VK), RtD H1 d Q → ∀ E, sp vs H1 Q E) : EvD (tCall sp [] E tas) σ H d := fun H1 e Q q => h H1 e _ fun vs H2 e2 hvs => by
  rw [List.append_nil]
  exact hs H2 vs (e.trans e2) hvs Q (fun v H3 e3 hv => q v H3 (e2.trans e3) hv) E
theorem s_retD (h : EvD te σ H d) (k : RtD H d D.rt) : tRet te D σ H := h H (Ex.refl H) _ fun v H1 e hv => k v H1 e hv
theorem s_asgD {i : Nat} (h : EvD te σ H d) (k : ∀ v H1, Ex H H1 → Dt H1 v d → D.nx (σ.set i (some v)) H1) : tAsg te (gName i) D σ H := h H (Ex.refl H) _ fun v H1 e hv => k v H1 e hv
theorem q_asgD {i : Nat} (h : EvD te σ H d) (k : ∀ v H1, Ex H H1 → Dt H1 v d → tz D (σ.set i (some v)) H1) : tSeq (tAsg te (gName i)) tz D σ H := s_asgD (D := { D with nx := tz D }) h k
theorem evd_ixT {p : Addr} {xs : List V} {i : Nat} {j : Int} (ha : Ev ta σ H (.ref p)) (hp : H p = some (.tup xs)) (hx : DtA H xs ds) (hb : Ev tb σ H (.int j)) (hj : j = (i : Int)) (hd : ds[i]? = some d) : EvD (tOp (rIxT K) ta tb) σ H d := by
  obtain ⟨v, hv, hdv⟩ := hx.get i d hd
  subst hj
  exact evd_of (ev_op ha hb (rv_ixT (st_of hp) (atI_nat hv))) hdv
theorem evd_ixL {p : Addr} {xs : List V} {i : Nat} {j : Int} (ha : Ev ta σ H (.ref p)) (hp : H p = some (.lst xs)) (hx : DtA H xs ds) (hb : Ev tb σ H (.int j)) (hj : j = (i : Int)) (hd : ds[i]? = some d) : EvD (tOp (rIxL K) ta tb) σ H d := by
  obtain ⟨v, hv, hdv⟩ := hx.get i d hd
  subst hj
  exact evd_of (ev_op ha hb (rv_ixL (sq_of hp) (atI_nat hv))) hdv
end
/-- strings as data -/
def okS (l : List Nat) : Bool := l.all fun c => decide (c < 1114112)
theorem canS {l : List Nat} (h : okS l = true) : PyData.canLay0 (.str (S l)) = true := by
  unfold PyData.canLay0 PyData.strOk
  rw [show (S l).cps = l.toArray from rfl]
  simpa [okS] using h
theorem eqv_str (a b : List Nat) : PyData.eqv (.str (S a)) (.str (S b)) = decide (a = b) := by
  unfold PyData.eqv
  by_cases h : a = b
  · subst h
    simp
  · rw [decide_eq_false h]
    exact beq_eq_false_iff_ne.mpr fun z => h (S_inj z)
end Kn
/-! ### sorted texts -/
namespace Kn
open PySem PySem.Spec PyProof.Rows L2 Evl SX
def leS (a b : Str) : Prop := a.cps.toList ≤ b.cps.toList
theorem rising_pw : ∀ (r : List Str) (x : Str), risingS x r = true → List.Pairwise leS (x :: r)
  | [], x, _ => by simp
  | y :: r, x, h => by
    unfold risingS at h
    rw [Bool.and_eq_true] at h
    have hxy : leS x y := List.not_lt.mp fun z => by
      have h1 := h.1
      rw [PyProof.Rows.ltCps_eq, decide_eq_true z] at h1
      cases h1
    have ih := rising_pw r y h.2
    refine List.pairwise_cons.mpr ⟨fun z hz => ?_, ih⟩
    rcases List.mem_cons.mp hz with e | e
    · rw [e]
      exact hxy
    · exact List.le_trans hxy ((List.pairwise_cons.mp ih).1 z e)
theorem sorted_pw {l : List Str} (h : sortedS l = true) : List.Pairwise leS l := by
  cases l with
  | nil => exact .nil
  | cons x r => exact rising_pw r x h
theorem sorted_uniq {l m : List Str} (h1 : sortedS l = true) (h2 : sortedS m = true) (p : l.Perm m) : l = m :=
  List.Perm.eq_of_pairwise (le := leS) (fun a b _ _ x y => TL.ext_tl (List.le_antisymm x y)) (sorted_pw h1) (sorted_pw h2) p
end Kn
namespace Kn
open PySem PySem.Spec PyProof.Rows L2 Evl SX
section
variable {K : PySem.W.Frag} {σ : L2.St} {H H' : Hp} {ta tb td ty te : TE} {t u : TT} {x y z v : V} {d p : Addr} {kvs : List (Key × V)} {k : List Nat}
theorem ev_dnotin (h2 : Ev ty σ H (.str (S k))) (h1 : Ev td σ H (.ref d)) (hd : H d = some (.dK kvs)) : Ev (tDNotIn ty td) σ H (.bl (!(valV kvs (Sum.inr (S k))).isSome)) := fun H1 e Q q =>
  h2 H1 e _ fun H2 e2 => h1 H2 (e.trans e2) _ fun H3 e3 => ⟨d, _, rfl, DGet.k (k := (Sum.inr (S k) : Key)) (((e.trans e2).trans e3) _ _ hd), q H3 (e2.trans e3)⟩
theorem et_dnotin (h2 : Ev ty σ H (.str (S k))) (h1 : Ev td σ H (.ref d)) (hd : H d = some (.dK kvs)) : EvT (tB (tDNotIn ty td)) σ H (!(valV kvs (Sum.inr (S k))).isSome) := et_B (ev_dnotin h2 h1 hd)
/-- text * int -/
theorem rv_mulS {l : List Nat} {n : Nat} (hn : n ≤ 100000) (hl : l.length ≤ 100) : RV rMulS (.str (S l)) (.int (n : Int)) H (.str (S (List.replicate n l).flatten)) := fun H1 _ _ q => ⟨l, n, rfl, rfl, hn, hl, q H1 (Ex.refl H1)⟩
theorem flat_one (n c : Nat) : (List.replicate n [c]).flatten = List.replicate n c := by
  induction n with
  | zero => rfl
  | succ n ih => rw [List.replicate_succ, List.flatten_cons, ih, List.replicate_succ]; rfl
theorem ev_mul1 {s : Str} {c n : Nat} {i : Int} (hs : s.cps.toList = [c]) (h : Ev te σ H (.int i)) (hi : i = (n : Int)) (hn : n ≤ 100000) : Ev (tOp rMulS (tC (.str s)) te) σ H (.str (S (List.replicate n c))) := by
  rw [← flat_one]
  subst hi
  exact ev_op (ev_cS hs) h (rv_mulS hn (by show 1 ≤ 100; decide))
end
end Kn
namespace Kn
open PySem PySem.Spec PyProof.Rows L2 Evl SX
section
variable {K : PySem.W.Frag} {i : Nat} {Wout : WX} {D : Ends} {c cls : Value} {ts : Addr → Value → Option Addr → TS} {l : List (Value × (Addr → Value → Option Addr → TS))} {d : Option Addr} {σ : L2.St} {H : Hp}
theorem many_hit (h : PySem.W.exmOne K cls c = some true) (k : ∀ a, H a = none → ts a cls d { nx := fun σ' H' => D.nx (σ'.set i none) H', rt := D.rt, bk := fun σ' H' => D.bk (σ'.set i none) H', ct := fun σ' H' => D.ct (σ'.set i none) H' } (σ.set i (some (.ref a))) H) :
    wManyAs K i Wout D ((c, ts) :: l) cls d σ H := ⟨true, h, (fun _ a na => k a na), (fun z => nomatch z)⟩
theorem many_skip (h : PySem.W.exmOne K cls c = some false) (k : wManyAs K i Wout D l cls d σ H) : wManyAs K i Wout D ((c, ts) :: l) cls d σ H := ⟨false, h, (fun z => nomatch z), fun _ => k⟩
theorem as_hit (h : PySem.W.exmOne K cls c = some true) (k : ∀ a, H a = none → ts a cls d { nx := fun σ' H' => D.nx (σ'.set i none) H', rt := D.rt, bk := fun σ' H' => D.bk (σ'.set i none) H', ct := fun σ' H' => D.ct (σ'.set i none) H' } (σ.set i (some (.ref a))) H) :
    wAs K c i ts Wout D cls d σ H := ⟨true, h, (fun _ a na => k a na), (fun z => nomatch z)⟩
end
end Kn
namespace Kn
open PySem PySem.Spec PyProof.Rows L2 Evl SX
mutual
theorem Dt.tups {H H1 : Hp} (e : ∀ q xs, H q = some (.tup xs) → H1 q = some (.tup xs)) : ∀ {v : V} {d : PyData}, Dt H v d → noL d = true → Dt H1 v d
  | _, _, .non, _ => .non
  | _, _, .bl b, _ => .bl b
  | _, _, .int i, _ => .int i
  | _, _, .str x, _ => .str x
  | _, _, .lst _ _, n => by
    unfold noL at n
    cases n
  | _, _, .tup h r, n => by
    unfold noL at n
    exact .tup (e _ _ h) (DtA.tups e r n)
theorem DtA.tups {H H1 : Hp} (e : ∀ q xs, H q = some (.tup xs) → H1 q = some (.tup xs)) : ∀ {vs : List V} {ds : List PyData}, DtA H vs ds → noLA ds = true → DtA H1 vs ds
  | _, _, .nil, _ => .nil
  | _, _, .cons h r, n => by
    unfold noLA at n
    rw [Bool.and_eq_true] at n
    exact .cons (Dt.tups e h n.1) (DtA.tups e r n.2)
end
end Kn
namespace Kn
open PySem PySem.Spec PyProof.Rows L2 Evl SX
theorem Paired.unmap {α β γ : Type} {F : α → γ → Prop} {u : β → γ} : ∀ {as : List α} {bs : List β}, Paired F as (bs.map u) → Paired (fun a b => F a (u b)) as bs
  | _, [], .nil => .nil
  | _, b :: bs, .cons h t => .cons h (Paired.unmap t)
end Kn
/-! ### sorted(d), text keys, any number -/
namespace Kn
open PySem PySem.Spec PyProof.Rows L2 Evl SX
def rSortDA (K : PySem.W.Frag) : List V → Hp → VK → Prop := fun xs H Q => ∃ (a : Addr) (kvs : List (Key × V)) (ks : List Str), xs = [.ref a] ∧ Rd H a (.dK kvs) ∧ kvs.map (·.1) = ks.map Sum.inr ∧ ks.length ≤ 100000 ∧ ∀ ys p, ys.Perm ks → sortedS ys = true → H p = none → Q (.ref p) (L2.upd H p (.lst (ys.map V.str)))
theorem cr_sortDA {X : Cx} (hcalm : X.calm = true) : CallR X (.builtin "sorted") (rSortDA X.K) := by
  intro pins s σ H xs us Q I r q
  obtain ⟨a, kvs, ks, ex, hd, hks, h64, q⟩ := q
  subst ex
  obtain ⟨u, eu, rx⟩ := vals1 r
  subst eu
  cases rx
  obtain ⟨z, lo, vs, rel, dd⟩ := dk_rd I.hok hd
  obtain ⟨ep, hat⟩ := dd.dictAt
  have hkeys : vs.map (·.1) = ks.map Sum.inr := rel.keys.symm.trans hks
  have hl : vs.length = ks.length := by
    have e := congrArg List.length hkeys
    rw [List.length_map, List.length_map] at e
    exact e
  have h16 : vs.length ≤ sizeLine := by rw [hl, sizeLine_eq]; omega
  refine Calls.call_function_entry PyProof.Rows.kind_sorted PyProof.Rows.plain_sorted PyProof.Rows.entry_sorted (PyProof.Rows.args_sorted1 _) ?_
  unfold Builtin.«sorted»
  refine wpAny_bind (m := checkCount "sorted" 1 1 _) (wpAny_pure ?_)
  refine wpAny_bind (PySem.W.kdu_collect (A := X.A.in1) (PySem.W.kdl_dict (knd := mixKind X.prog X.w) (kvs := vs) (ep := ep) lo) (I.ok.hd hcalm) hat h16 fun h' tk acc hk hacc => ?_)
  have hal : acc.toList.length = ks.length := by rw [Array.length_toList, hacc.1, hl]
  have hS : StrsAre acc.toList ks := strs_at hal fun j v e => by
    obtain ⟨k, x, e1, e2⟩ := hacc.2 j v (by rw [← Array.getElem?_toList]; exact e)
    have e3 : (vs.map (·.1))[j]? = some k := by rw [List.getElem?_map, e1]; all_goals rfl
    rw [hkeys, List.getElem?_map] at e3
    cases e4 : ks[j]? with
    | none => rw [e4] at e3; cases e3
    | some y =>
      rw [e4] at e3
      have e5 : Sum.inr y = k := Option.some.inj e3
      subst e5
      obtain ⟨t, ev⟩ := Value.isStrOf_shape (x := y) (v := v) e2
      exact ⟨y, t, rfl, ev⟩
  have I1 : Inv X pins σ H { s with heap := h', toks := tk } := I.kept hk
  refine wpAny_bind (wpAny_newList ?_ (by rw [hal, sizeLine_eq]; omega))
  have hoL : (h'.push (seqObj "list" acc.toList.toArray 0)).get? h'.objs.size = some (seqObj "list" acc.toList.toArray 0) := Heap.get?_push_size _ rfl
  show wpAny _ _ _ _ _ { s with heap := h'.push (seqObj "list" acc.toList.toArray 0), toks := tk }
  refine wpAny_bind (wpAny_holding (wpAny_call_entry PyProof.Rows.slot_list_sort ⟨_, hoL, rfl⟩ PyProof.Rows.entry_list_sort
    (list_sort_treeKAny strKind_oneLt (s := { s with heap := h'.push (seqObj "list" acc.toList.toArray 0), toks := tk }) hoL hS.keysOf (fun v₁ v₂ rest e => keyKind_strs (by rw [← e]; exact hS)) (by rw [hal, sizeLine_eq]; omega) fun st' hp hs => ⟨_, rfl, ?_⟩)
    (PyProof.Rows.args_list_sort _)))
  obtain ⟨ys, g1, g2, g3⟩ := sorted_out_str hS hp hs
  obtain ⟨e', he'⟩ := PyProof.Rows.sortedHeap_at (vs := acc.toList) (out := (arrOf st').map (·.2)) hoL
  have hlen : (ys.map V.str).length ≤ sizeLine := by
    rw [List.length_map, g2.length_eq]
    exact Evl.sz_of h64
  refine wpAny_pure ⟨_, rfl, .ref h'.objs.size, L2.upd H h'.objs.size (.lst (ys.map V.str)), I1.laid (t' := tk) (fun b u e => ?_) (Nat.le_refl _)
    (show ObjOk X.prog X.w _ _ _ (.lst (ys.map V.str)) from ⟨hlen, ((arrOf st').map (·.2)).toList, e', vals_of_strs g1, by rw [Array.toArray_toList]; exact he'⟩), rfl, q ys _ g2 g3 (I1.hok.fresh (Nat.le_refl _))⟩
  have hb : b < h'.objs.size := Heap.lt_size e
  rw [PyProof.Rows.sortedHeap_old (Nat.ne_of_lt hb) (by rw [size_push']; exact Nat.lt_succ_of_lt hb)]
  exact Heap.get?_push_of_some _ e
end Kn
namespace Kn
open PySem PySem.Spec PyProof.Rows L2 Evl SX
def rLenD : List V → Hp → VK → Prop := fun xs H Q => ∃ d kvs, xs = [.ref d] ∧ H d = some (.dK kvs) ∧ Q (.int kvs.length) H
theorem cr_lenD {X : Cx} : CallR X (.builtin "len") rLenD := call_lenD
theorem ev_lenD {σ : L2.St} {H : Hp} {td : TE} {d : Addr} {kvs : List (Key × V)} (h : Ev td σ H (.ref d)) (hd : H d = some (.dK kvs)) : Ev (tCB rLenD (tCons td tNil)) σ H (.int (kvs.length : Int)) := fun H1 e Q q => h H1 e _ fun H2 e2 => ⟨d, kvs, rfl, (e.trans e2) _ _ hd, q H2 e2⟩
end Kn
namespace Kn
open PySem PySem.Spec PyProof.Rows L2 Evl SX
section
variable {K : PySem.W.Frag} {σ : L2.St} {H : Hp} {te : TE}
/-- n % m, n // m of naturals; a sign and a number -/
theorem ev_mod {n m : Nat} {k : Int} (h : Ev te σ H (.int (n : Int))) (hk : k = (m : Int)) (hm : 0 < m) : Ev (tOp (rI (fun _ j => 0 < j) fun i j => .int (i % j)) te (tC (.int k))) σ H (.int ((n % m : Nat) : Int)) := by
  subst hk
  rw [Int.natCast_emod]
  exact ev_op h ev_c (rv_mod (by omega))
theorem ev_div {n m : Nat} {k : Int} (h : Ev te σ H (.int (n : Int))) (hk : k = (m : Int)) (hm : 0 < m ∧ m < 1073741824) : Ev (tOp (rI CDiv fun i j => .int (i / j)) te (tC (.int k))) σ H (.int ((n / m : Nat) : Int)) := by
  subst hk
  rw [Int.natCast_ediv]
  exact ev_op h ev_c (rv_fdiv ⟨by omega, by omega⟩)
theorem ev_nm {s : Str} {n : Nat} {c : Nat} (hs : s.cps.toList = [c]) (hn : n < 1000) (h : Ev te σ H (.int (n : Int))) : Ev (tOp rAddS (tC (.str s)) (tCB rStrInt (tCons te tNil))) σ H (.str (S ([c] ++ TL.numL n))) := by
  have hl : (TL.numL n).length ≤ 3 := by
    have z : ∀ m < 1000, (TL.numL m).length ≤ 3 := by decide +kernel
    exact z n hn
  exact ev_op (ev_cS hs) (ev_strInt h hn) (rv_addS (by rw [List.length_singleton]; omega))
theorem et_eqN {n m : Nat} {k : Int} (h : Ev te σ H (.int (n : Int))) (hk : k = (m : Int)) : EvT (tTest (tOp rEq te (tC (.int k)))) σ H (decide (n = m)) := by
  subst hk
  exact et_is (et_test (ev_op h ev_c rv_eqI)) (by rw [decide_eq_decide]; omega)
theorem ev_eqN {n m : Nat} {k : Int} (h : Ev te σ H (.int (n : Int))) (hk : k = (m : Int)) : Ev (tOp rEq te (tC (.int k))) σ H (.bl (decide (n = m))) := by
  subst hk
  exact ev_is (ev_op h ev_c rv_eqI) (by rw [show decide ((n : Int) = (m : Int)) = decide (n = m) from by rw [decide_eq_decide]; omega])
theorem et_ltN {n m : Nat} {k : Int} (h : Ev te σ H (.int (n : Int))) (hk : k = (m : Int)) : EvT (tTest (tOp (rI0 fun i j => .bl (decide (i < j))) te (tC (.int k)))) σ H (decide (n < m)) := by
  subst hk
  exact et_is (et_test (ev_op h ev_c rv_lt)) (by rw [decide_eq_decide]; omega)
end
theorem shaped_tup {ds : List PyData} (h : PyData.canLayAll0 ds = true) (hd : PyData.depth (.tuple ds) ≤ 64) : SeqAt.shaped (.tuple ds) = true := by
  show (PyData.canLayAll0 ds && decide (PyData.depth (.tuple ds) ≤ 64)) = true
  rw [h, decide_eq_true hd]
  rfl
theorem shaped_lst {ds : List PyData} (h : PyData.canLayAll0 ds = true) (hd : PyData.depth (.list ds) ≤ 64) : SeqAt.shaped (.list ds) = true := by
  show (PyData.canLayAll0 ds && decide (PyData.depth (.list ds) ≤ 64)) = true
  rw [h, decide_eq_true hd]
  rfl
theorem can_cons {d : PyData} {ds : List PyData} (h : PyData.canLay0 d = true) (r : PyData.canLayAll0 ds = true) : PyData.canLayAll0 (d :: ds) = true := by
  show (PyData.canLay0 d && PyData.canLayAll0 ds) = true
  rw [h, r]
  rfl
theorem can_nil : PyData.canLayAll0 [] = true := rfl
theorem eqv_self {d : PyData} (h : SeqAt.shaped d = true) : PyData.eqv d d = true := SeqAt.eqv_refl _ (SeqAt.canLay_of_shaped h)
theorem canL_strs : ∀ {ys : List Str}, (∀ y ∈ ys, okS y.cps.toList = true) → PyData.canLayAll0 (ys.map .str) = true
  | [], _ => rfl
  | y :: r, h => by
    have e : y = S y.cps.toList := by
      refine TL.ext_tl ?_
      rfl
    rw [List.map_cons]
    refine can_cons ?_ (canL_strs fun z hz => h z (List.mem_cons_of_mem _ hz))
    rw [e]
    exact canS (h y List.mem_cons_self)
theorem depth_strs : ∀ ys : List Str, PyData.depthAll (ys.map .str) = 0
  | [] => rfl
  | y :: r => by
    show max 0 (PyData.depthAll (r.map .str)) = 0
    rw [depth_strs r]
    rfl
theorem shaped_strs {ys : List Str} (h : ∀ y ∈ ys, okS y.cps.toList = true) : SeqAt.shaped (.list (ys.map .str)) = true := by
  show (PyData.canLayAll0 (ys.map .str) && decide (PyData.depthAll (ys.map .str) + 1 ≤ 64)) = true
  rw [canL_strs h, depth_strs]
  rfl
theorem dta_strs {H : Hp} : ∀ ys : List Str, DtA H (ys.map V.str) (ys.map .str)
  | [] => .nil
  | y :: r => .cons (.str y) (dta_strs r)
/-- the part of a try that returns (word, o.m(..)) -/
theorem done_ret {C p dx : Addr} {m : Str} {sp : Sp} {W : WX} {fs : List (Str × V)} {σ : L2.St} {H : Hp} {D : Ends} {tA : TA} {vs : List V} {word : Str} (hσ : σ[0]? = some (some (.ref p))) (ho : H p = some (.ins C dx fs)) (hm : fs.lookup m = none) (hA : EvA tA σ H vs)
    (hs : ∀ H1, Ex H H1 → sp (.ref p :: vs) H1 (fun v H2 => [V.str word, v].length ≤ sizeLine ∧ ∀ q, H2 q = none → D.rt (.ref q) (L2.upd H2 q (.tup [.str word, v]))) (WE W σ)) :
    tRet (tTup (tCons (tC (.str word)) (tCons (tMethX C m sp (WE W) (tVar 0) tA) tNil))) D σ H :=
  ⟨_, hσ, p, dx, fs, rfl, ho, hm, hA H (Ex.refl _) _ fun H1 e1 => hs H1 e1⟩
end Kn
/-! ### a dict of the module with text keys: what it holds at each key -/
namespace Kn
open PySem PySem.Spec PyProof.Rows L2 Evl SX
/-- the entries as they stand: keys and values -/
def wdLook (es : List (Str × V)) (z : Str) : Option V := (es.find? fun e => decide (e.1 = z)).map (·.2)
structure WD (K : PySem.W.Frag) (w : World) (mg : Str → Option Value) (x : Str) (D : Addr) (f : List (Str × V)) : Prop where
  mg : mg x = some (.ref D)
  ex : ∃ es n, KDict K w D es n
  at_ : ∀ z, ∃ r, PySem.W.nsIn K D z = some r ∧ ((wdLook f z = none ∧ r = none) ∨ ∃ v u, wdLook f z = some v ∧ r = some u ∧ RelV v u)
inductive EntsAre : List DictEntry → List (Str × V) → Prop
  | nil : EntsAre [] []
  | cons {e : DictEntry} {es : List DictEntry} {x : Str} {v : V} {f : List (Str × V)} (hk : ∃ t, e.key = .str x t) (hv : RelV v e.val) (r : EntsAre es f) : EntsAre (e :: es) ((x, v) :: f)
theorem EntsAre.find : ∀ {es : List DictEntry} {f : List (Str × V)}, EntsAre es f → ∀ z : Str, ((es.find? (·.key.isStr z)) = none ∧ wdLook f z = none ∧ es.any (·.refKey) = false) ∨ ∃ e v, es.find? (·.key.isStr z) = some e ∧ wdLook f z = some v ∧ RelV v e.val
  | _, _, .nil, z => .inl ⟨rfl, rfl, rfl⟩
  | _, _, .cons (e := e) (es := es) (x := x) (v := v) (f := f) ⟨t, hk⟩ hv r, z => by
    unfold wdLook
    rw [List.find?_cons, List.find?_cons]
    have h1 : e.key.isStr z = decide (x = z) := by
      rw [hk]
      show (x == z) = decide (x = z)
      by_cases h : x = z
      · rw [h, decide_eq_true rfl]
        exact beq_self_eq_true z
      · rw [decide_eq_false h]
        exact beq_eq_false_iff_ne.mpr h
    rw [h1]
    by_cases h : x = z
    · rw [decide_eq_true h]
      exact .inr ⟨e, v, rfl, rfl, hv⟩
    · rw [decide_eq_false h]
      rcases EntsAre.find r z with ⟨a, b, c⟩ | ⟨e2, v2, a, b, c⟩
      · refine .inl ⟨a, b, ?_⟩
        rw [List.any_cons, c, Bool.or_false]
        unfold DictEntry.refKey
        rw [hk]
      · exact .inr ⟨e2, v2, a, b, c⟩
theorem wd_of {K : PySem.W.Frag} {w : World} {mg : Str → Option Value} {x : Str} {D : Addr} {es : Array DictEntry} {n : Nat} {f : List (Str × V)} (g : mg x = some (.ref D)) (h : K.lookup D = some ⟨.type "dict", none, .dict es n, #[]⟩) (low : (D == sysModules) = false) (lit : PySem.W.KeysLit w.params es.toList) (ea : EntsAre es.toList f) : WD K w mg x D f :=
  ⟨g, ⟨es, n, h, lit, low⟩, fun z => by
    unfold PySem.W.nsIn
    rw [h]
    dsimp only
    rcases ea.find z with ⟨a, b, c⟩ | ⟨e, v, a, b, c⟩
    · rw [a, c]
      exact ⟨none, rfl, .inl ⟨b, rfl⟩⟩
    · rw [a]
      exact ⟨some e.val, rfl, .inr ⟨v, _, b, rfl, c⟩⟩⟩
def rWIn (D : Addr) (f : List (Str × V)) : R2 := fun x y H Q => ∃ z : Str, x = .str z ∧ y = .ref D ∧ Q (.bl (wdLook f z).isSome) H
def rWNin (D : Addr) (f : List (Str × V)) : R2 := fun x y H Q => ∃ z : Str, x = .str z ∧ y = .ref D ∧ Q (.bl (!(wdLook f z).isSome)) H
def rIxW (D : Addr) (f : List (Str × V)) : R2 := fun x y H Q => ∃ (z : Str) (v : V), x = .ref D ∧ y = .str z ∧ wdLook f z = some v ∧ Q v H
def tWGet2 (D : Addr) (f : List (Str × V)) (td ty tx : TE) : TE := fun σ H Q => td σ H fun x H1 => x = .ref D ∧ ty σ H1 fun y H2 => tx σ H2 fun d H3 => ∃ z : Str, y = .str z ∧ Q ((wdLook f z).getD d) H3
section
variable {X : Cx} {x : Str} {D : Addr} {f : List (Str × V)} {pos apos cpos : Pos} {o e e2 : Expr} {td ty tx : TE}
theorem pe_wd (W : WD X.K X.w X.mg x D f) (hg : Gl X x) (hd : (x == ("__debug__" : Str)) = false := by decide) : PE X (.Name x pos) (tC (.ref D)) := pe_glob hg W.mg rfl hd
theorem WD.same {K : PySem.W.Frag} {w : World} {mg : Str → Option Value} (W : WD K w mg x D f) (z : Str) : ∃ r, PySem.W.nsIn K D z = some r ∧ r.isSome = (wdLook f z).isSome := by
  obtain ⟨r, h, h2⟩ := W.at_ z
  refine ⟨r, h, ?_⟩
  rcases h2 with ⟨a, b⟩ | ⟨v, u, a, b, _⟩ <;> rw [a, b] <;> rfl
theorem op_in_wd (W : WD X.K X.w X.mg x D f) : OpR X (compareOp .In) (rWIn D f) := by
  intro pins s σ H x y v u Q I rx ry h
  obtain ⟨z, rfl, rfl, q⟩ := h
  obtain ⟨es, n, hD⟩ := W.ex
  obtain ⟨r, h1, h2⟩ := W.same z
  exact op_in_kd hD pins s σ H _ _ v u Q I rx ry ⟨z, r, rfl, rfl, h1, by rw [h2]; exact q⟩
theorem op_notIn_wd (W : WD X.K X.w X.mg x D f) : OpR X (compareOp .NotIn) (rWNin D f) := by
  intro pins s σ H x y v u Q I rx ry h
  obtain ⟨z, rfl, rfl, q⟩ := h
  obtain ⟨es, n, hD⟩ := W.ex
  obtain ⟨r, h1, h2⟩ := W.same z
  exact op_notIn_kd hD pins s σ H _ _ v u Q I rx ry ⟨z, r, rfl, rfl, h1, by rw [h2]; exact q⟩
theorem ix_wd (W : WD X.K X.w X.mg x D f) : IxR X (rIxW D f) := by
  intro value slice pins s σ H x y v u Q I rx ry h hs
  obtain ⟨z, v0, rfl, rfl, h0, q⟩ := h
  obtain ⟨es, n, hD⟩ := W.ex
  obtain ⟨r, h1, h2⟩ := W.at_ z
  rcases h2 with ⟨a, b⟩ | ⟨v1, u1, a, b, c⟩
  · rw [h0] at a
    cases a
  · rw [h0] at a
    cases Option.some.inj a
    subst b
    obtain rfl : v = Value.ref D := rx
    obtain ⟨t, rfl⟩ := (show ∃ t, u = Value.str z t from ry)
    have hm' := PySem.W.mapOf_K (prog := X.prog) (w := X.w) I.kIn hD.at_ hD.lit
    exact tail_any hm'.typeIs slot_dict_getitem.lookup (wpAny_getItem_of (PySem.strKind_is X.prog X.w z t) hm' (PySem.W.find_K hD.at_ h1) ⟨v0, H, I.tok _, c, q⟩) hs
theorem pe_wget2 (W : WD X.K X.w X.mg x D f) (ho : PE X o td) (he : PE X e ty) (hf : PE X e2 tx) (m : M2 X o "get" apos e e2 cpos) : PE X (.Call (.Attribute o "get" apos) [e, e2] [] cpos) (tWGet2 D f td ty tx) := by
  refine ⟨fun pins s σ H Q I h => ?_⟩
  obtain ⟨es, n, hD⟩ := W.ex
  refine wpAny_Call_method m.base m.few m.line PySem.F.plainAttrs_dict PySem.F.slot_dict_get PySem.F.type_dict_get (thn (ho.run pins s σ H _ I h) fun u s1 ⟨y1, H1, I1, rx, ex, q1⟩ => ?_)
  subst ex
  obtain rfl : u = Value.ref D := rx
  have hk := fun (h : Heap) (k : X.K.In h) => k _ _ hD.at_
  refine ⟨kd_type hD I1, fun b q => ?_, ?_⟩
  · cases q
    exact ⟨_, hk _ I1.kIn, rfl⟩
  rw [m.trees]
  refine Calls.callWith_builtin rfl (Calls.evalArgs_plain (Calls.spliced_cons (thn (he.run pins s1 σ H1 _ I1 q1) fun iv s2 ⟨y, H2, I2, ry, q2⟩ =>
    Calls.spliced_cons (thn (hf.run pins s2 σ H2 _ I2 q2) fun fv s3 ⟨d, H3, I3, rz, z, ey, q3⟩ => Calls.spliced_nil ?_))))
  subst ey
  obtain ⟨t, rfl⟩ := (show ∃ t, iv = Value.str z t from ry)
  obtain ⟨r, h1, h2⟩ := W.at_ z
  have hm' := PySem.W.mapOf_K (prog := X.prog) (w := X.w) I3.kIn hD.at_ hD.lit
  refine call_meetsIn PySem.F.slot_dict_get hm'.typeIs PySem.F.entry_dict_get (PySem.F.args_dict_get_3 _ _ _) (meets_dict_get_default (strKind X.prog X.w) D (PySem.strKind_is X.prog X.w z t) hD.low fv) ⟨_, hm', ?_⟩
  have hf1 := PySem.W.find_K hD.at_ h1
  rw [hf1]
  refine ⟨(wdLook f z).getD d, H3, I3.tok _, ?_, q3⟩
  rcases h2 with ⟨a, b⟩ | ⟨v1, u1, a, b, c⟩
  · rw [a, b]
    exact rz
  · rw [a, b]
    exact c
end
section
variable {σ : L2.St} {H : Hp} {ta tb tc : TE} {D : Addr} {f : List (Str × V)} {l : List Nat} {v : V}
theorem rv_win : RV (rWIn D f) (.str (S l)) (.ref D) H (.bl (wdLook f (S l)).isSome) := fun H1 _ _ q => ⟨S l, rfl, rfl, q H1 (Ex.refl H1)⟩
theorem rv_wnin : RV (rWNin D f) (.str (S l)) (.ref D) H (.bl (!(wdLook f (S l)).isSome)) := fun H1 _ _ q => ⟨S l, rfl, rfl, q H1 (Ex.refl H1)⟩
theorem rv_wix (h : wdLook f (S l) = some v) : RV (rIxW D f) (.ref D) (.str (S l)) H v := fun H1 _ _ q => ⟨S l, v, rfl, rfl, h, q H1 (Ex.refl H1)⟩
theorem ev_wget2 (ha : Ev ta σ H (.ref D)) (hb : Ev tb σ H (.str (S l))) (hc : Ev tc σ H v) : Ev (tWGet2 D f ta tb tc) σ H ((wdLook f (S l)).getD v) := fun H1 e Q q =>
  ha H1 e _ fun H2 e2 => ⟨rfl, hb H2 (e.trans e2) _ fun H3 e3 => hc H3 ((e.trans e2).trans e3) _ fun H4 e4 => ⟨S l, rfl, q H4 ((e2.trans e3).trans e4)⟩⟩
end
end Kn
namespace Kn
open PySem PySem.Spec PyProof.Rows L2 Evl SX
theorem num_len {n : Nat} (h : n < 10 ^ 9) : (TL.numL n).length ≤ 9 := by
  unfold TL.numL
  rw [List.length_map]
  exact (Nat.length_toDigits_le_iff (by decide) (by decide)).mpr h
theorem cutS_nat (l : List Nat) (a b : Nat) : cutS (S l) (some (a : Int)) (some (b : Int)) = S ((l.drop a).take (b - a)) := by
  unfold cutS
  rw [HT.sIx_nat, HT.sIx_nat]
  exact congrArg S (cut_nat l a b)
/-! ### lstrip, unpacking, raising passed on -/
def rLstripC : V → List V → Hp → VK → Prop := fun x xs H Q => ∃ a b, x = .str a ∧ xs = [.str b] ∧ a.length ≤ sizeLine ∧ Q (.str (Txt.lstripChars a b)) H
theorem mt_lstripC {X : Cx} : MtR X "str.lstrip" rLstripC := mt_lstripChars
theorem drop_tw (p : Nat → Bool) : ∀ l : List Nat, l.drop (l.takeWhile p).length = l.dropWhile p
  | [] => rfl
  | c :: r => by
    rw [List.takeWhile_cons, List.dropWhile_cons]
    cases h : p c with
    | true =>
      show (c :: r).drop ((r.takeWhile p).length + 1) = r.dropWhile p
      rw [List.drop_succ_cons]
      exact drop_tw p r
    | false => rfl
theorem lstrip_S (l : List Nat) (c : Nat) : Txt.lstripChars (S l) (S [c]) = S (l.dropWhile fun d => decide (d = c)) := by
  unfold Txt.lstripChars
  rw [PySem.W.stripBy_eq]
  refine TL.ext_tl ?_
  have hg : ∀ d, (S [c]).cps.contains d = decide (d = c) := fun d => by
    show (#[c] : Array Nat).contains d = _
    by_cases h : d = c
    · subst h; simp
    · simp [h]
  have e : (fun d => (S [c]).cps.contains d) = fun d => decide (d = c) := funext hg
  show (PySem.W.stripped (fun d => (S [c]).cps.contains d) true false (S l)).cps.toList = _
  rw [e]
  show (PySem.Builtin.Str.strSub (S l) (l.takeWhile fun d => decide (d = c)).length (S l).length).cps.toList = l.dropWhile fun d => decide (d = c)
  rw [S_len]
  have h1 := TL.tl_strSub (x := S l) (i := (l.takeWhile fun d => decide (d = c)).length) (j := l.length)
  refine h1.trans ?_
  show (l.drop _).take (l.length - _) = _
  rw [List.take_of_length_le (by rw [List.length_drop]; exact Nat.le_refl _)]
  exact drop_tw _ l
section
variable {K : PySem.W.Frag} {σ : L2.St} {H H' : Hp} {ta tb te : TE} {v1 v2 v3 : V} {a : Addr} {i j k : Nat} {Q : L2.St → Hp → Prop}
theorem ev_lstrip {l : List Nat} {c : Nat} (ha : Ev ta σ H (.str (S l))) (hb : Ev tb σ H (.str (S [c]))) (hl : l.length ≤ 100000) : Ev (tM1 rLstripC ta tb) σ H (.str (S (l.dropWhile fun d => decide (d = c)))) := fun H1 e Q q =>
  ha H1 e _ fun H2 e2 => ⟨⟨_, rfl⟩, hb H2 (e.trans e2) _ fun H3 e3 => ⟨S l, S [c], rfl, rfl, by rw [S_len]; exact sz_of hl, by rw [lstrip_S]; exact q H3 (e2.trans e3)⟩⟩
theorem unp2 (h : H a = some (.tup [v1, v2])) (q : Q ((σ.set i (some v1)).set j (some v2)) H) : gTup K 2 (gCons (gName i) (gCons (gName j) gNil)) (.ref a) σ H Q :=
  ⟨a, _, rfl, st_of h, rfl, v1, _, rfl, v2, _, rfl, rfl, q⟩
theorem unp3 (h : H a = some (.tup [v1, v2, v3])) (q : Q (((σ.set i (some v1)).set j (some v2)).set k (some v3)) H) : gTup K 3 (gCons (gName i) (gCons (gName j) (gCons (gName k) gNil))) (.ref a) σ H Q :=
  ⟨a, _, rfl, st_of h, rfl, v1, _, rfl, v2, _, rfl, v3, _, rfl, rfl, q⟩
/-- what is raised: an error of the class at C with these four fields -/
def Rz4 (H : Hp) (E : XK) (C : Addr) (p : List Nat) (n c : Nat) (r : List Nat) : Prop := ∀ d H', Ex H H' → H' d = some (.xd (fs4 p n c r)) → E (.ref C) (some d) H'
theorem Rz4.mono {E : XK} {C : Addr} {p r : List Nat} {n c : Nat} (h : Rz4 H E C p n c r) (e : Ex H H') : Rz4 H' E C p n c r := fun d H2 e2 hd => h d H2 (e.trans e2) hd
end
end Kn
namespace Kn
open PySem PySem.Spec PyProof.Rows L2 Evl SX
section
variable {σ : L2.St} {H H' : Hp} {W : WX} {sp : Sp} {tA : TA} {g : TG} {D : Ends} {tz : TS} {vs : List V}
/-- a call that may raise, its answer stored, returned, thrown away -/
theorem s_asgS (hA : EvA tA σ H vs) (k : ∀ H1, Ex H H1 → sp vs H1 (fun v H2 => g v σ H2 D.nx) (WE W σ)) : tAsg (tCallS sp (WE W) tA) g D σ H := hA H (Ex.refl _) _ fun H1 e1 => k H1 e1
theorem q_asgS (hA : EvA tA σ H vs) (k : ∀ H1, Ex H H1 → sp vs H1 (fun v H2 => g v σ H2 (tz D)) (WE W σ)) : tSeq (tAsg (tCallS sp (WE W) tA) g) tz D σ H := s_asgS (D := { D with nx := tz D }) hA k
theorem s_retS (hA : EvA tA σ H vs) (k : ∀ H1, Ex H H1 → sp vs H1 (fun v H2 => D.rt v H2) (WE W σ)) : tRet (tCallS sp (WE W) tA) D σ H := hA H (Ex.refl _) _ fun H1 e1 => k H1 e1
end
end Kn
namespace Kn
open PySem PySem.Spec PyProof.Rows L2 Evl SX
section
variable {K : PySem.W.Frag} {σ : L2.St} {H H' : Hp} {ta te : TE} {D : Ends} {tz : TS} {l : Addr} {xs : List V} {d : PyData}
theorem s_appD (hl : H l = some (.lst xs)) (ha : Ev ta σ H (.ref l)) (h : EvD te σ H d) (hz : xs.length < 100000) (k : ∀ v H1, Ex H H1 → Dt H1 v d → D.nx σ (L2.upd H1 l (.lst (xs ++ [v])))) :
    tDrop (tBM K "list" rAppend ta (tCons te tNil)) D σ H := ha H (Ex.refl H) _ fun H1 e1 =>
  ⟨Or.inl ⟨rfl, xs, sq_of (e1 l _ hl)⟩, h H1 e1 _ fun v H2 e2 hv => ⟨l, xs, v, rfl, rfl, e2 l _ (e1 l _ hl), sz_lt hz, k v H2 (e1.trans e2) hv⟩⟩
theorem q_appD (hl : H l = some (.lst xs)) (ha : Ev ta σ H (.ref l)) (h : EvD te σ H d) (hz : xs.length < 100000) (k : ∀ v H1, Ex H H1 → Dt H1 v d → tz D σ (L2.upd H1 l (.lst (xs ++ [v])))) :
    tSeq (tDrop (tBM K "list" rAppend ta (tCons te tNil))) tz D σ H := s_appD (D := { D with nx := tz D }) hl ha h hz k
theorem dta_app {v : V} {ds : List PyData} (hl : H l = some (.lst xs)) (hD : DtA H xs ds) (hv : Dt H v d) (h1 : noLA ds = true) (h2 : noL d = true) : DtA (L2.upd H l (.lst (xs ++ [v]))) (xs ++ [v]) (ds ++ [d]) :=
  DtA.snoc (hv.upd hl (fun _ z => nomatch z) h2) (hD.upd hl (fun _ z => nomatch z) h1)
theorem noLA_map {α : Type} {f : α → PyData} (h : ∀ x, noL (f x) = true) : ∀ l : List α, noLA (l.map f) = true
  | [] => by unfold noLA; rfl
  | x :: r => by
    rw [List.map_cons]
    unfold noLA
    rw [h x, noLA_map h r]
    rfl
end
end Kn
namespace Kn
open PySem PySem.Spec PyProof.Rows L2 Evl SX
/-! ### a token is out -/
section
variable {X : Cx} {a b c e o : Expr} {rest : List Expr} {ta tb te to : TE} {tc tA tB' : TT} {t u : TS} {sa sb : List Stmt} {pos apos : Pos}
theorem peb_int {i : Int} {j : Nat} : PEb X (.Constant (.int i) j pos) (tC (.int i)) := fun _ s _ H _ I h => wpAny_Constant_int ⟨by show 1 ≤ s.toks + 1; omega, .int i, H, I.tok _, ⟨_, rfl⟩, h⟩
theorem peb_opR {op : Operator} {r : R2} (ho : OpR X (binaryOp op) r) (ha : PE X a ta) (hb : PEb X b tb) : PEb X (.BinOp a op b pos) (tOp r ta tb) := by
  intro pins s σ H Q I h
  refine wpAny_BinOp (thn (ha.run pins s σ H _ I h) fun v s1 ⟨x, H1, I1, r1, q1⟩ => ?_)
  exact thn (hb pins s1 σ H1 _ I1 q1) fun u s2 ⟨h2, y, H2, I2, r2, q2⟩ => keep_tok h2 (ho pins s2 σ H2 x y v u Q I2 r1 r2 q2)
theorem peb_ix {r : R2} (hr : IxR X r) (ha : PE X a ta) (hb : PEb X b tb) (hs : PlainIx b) : PEb X (.Subscript a b pos) (tOp r ta tb) := by
  intro pins s σ H Q I h
  refine Subscript_ (thn (ha.run pins s σ H _ I h) fun v s1 ⟨x, H1, I1, r1, q1⟩ => ?_)
  exact thn (hb pins s1 σ H1 _ I1 q1) fun u s2 ⟨h2, y, H2, I2, r2, q2⟩ => keep_tok h2 (hr a b pins s2 σ H2 x y v u Q I2 r1 r2 q2 (hs _ _))
theorem pe_of_b {te : TE} (h : ∀ (pins : List (Addr × Obj)) (s : Shared) (σ : L2.St) (H : Hp) (Q : VK), Inv X pins σ H s → te σ H Q → wpAny (model X.prog X.w) X.A (eval e X.env) (EP X pins σ Q) X.xe s) : PE X e te := ⟨h⟩
/-- b.replace(..), where b's own text gives a token -/
theorem pe_replB {y z : Str} {j k : Nat} {c0 c1 : Pos} (ho : PEb X o to) (hyz : (y == z) = false := by decide)
    (hst : starEach [.Constant (.str y) j c0, .Constant (.str z) k c1] X.env = [(false, eval (.Constant (.str y) j c0) X.env), (false, eval (.Constant (.str z) k c1) X.env)] := by rfl)
    (hbase : attributeBase o "replace" X.env (eval o X.env) = eval o X.env := by rfl) (hline : (apos.endLine == pos.line) = true := by rfl) :
    PE X (.Call (.Attribute o "replace" apos) [.Constant (.str y) j c0, .Constant (.str z) k c1] [] pos) (CwR.tReplC to y z) := by
  refine ⟨fun pins s σ H Q I h => ?_⟩
  refine PySem.Call_method2 hbase hst hline (thn (ho pins s σ H _ I h) fun v s1 ⟨hk, v', H1, I1, r1, x, e1, hb, q⟩ => ?_)
  subst e1
  obtain ⟨tx, e2⟩ := r1
  subst e2
  refine ⟨"str", _, PySem.F.plainAttrs_str, PySem.F.slot_str_replace, PySem.F.type_str_replace, typeIs_str _ _ _, (fun _ e => nomatch e), Calls.callWith_builtin rfl (Calls.evalArgs_plain (Calls.spliced_cons ?_))⟩
  refine Calls.Constant_str (Calls.spliced_cons (Calls.Constant_str (Calls.spliced_nil ?_)))
  exact PySem.SC.replace (by show s1.toks ≠ 0; omega) (by show s1.toks + 1 ≠ 0; omega) (by show s1.toks ≠ s1.toks + 1; omega) hyz hb fun t' k => ⟨.str (Txt.replace x y z), H1, I1.tok k, ⟨t', rfl⟩, q⟩
def PTT (X : Cx) (c : Expr) (tc : TT) : Prop := ∀ (pins : List (Addr × Obj)) (s : Shared) (σ : L2.St) (H : Hp) (Q : Bool → Hp → Prop), 1 ≤ s.toks → Inv X pins σ H s → tc σ H Q → wpAny (model X.prog X.w) X.A (isTrue c X.env (eval c X.env)) (TP X pins σ Q) X.xe s
def PWT (X : Cx) (c : Expr) (tc : TT) : Prop := ∀ (whole : Sem Value) (pins : List (Addr × Obj)) (s : Shared) (σ : L2.St) (H : Hp) (Q : Bool → Hp → Prop), 1 ≤ s.toks → Inv X pins σ H s → tc σ H Q → wpAny (model X.prog X.w) X.A (isTrue c X.env whole) (TP X pins σ Q) X.xe s
theorem PWT.pt (h : PWT X c tc) : PTT X c tc := h _
theorem pet_ix {r : R2} (hr : IxR X r) (ha : L2.PET X a ta) (hb : PE X b tb) (hs : PlainIx b) : L2.PET X (.Subscript a b pos) (tOp r ta tb) := by
  intro pins s σ H Q h0 I h
  refine Subscript_ (thn (ha pins s σ H _ h0 I h) fun v s1 ⟨x, H1, I1, r1, q1⟩ => ?_)
  exact thn (hb.run pins s1 σ H1 _ I1 q1) fun u s2 ⟨y, H2, I2, r2, q2⟩ => hr a b pins s2 σ H2 x y v u Q I2 r1 r2 q2 (hs _ _)
theorem ptt_cmpR {op : CmpOp} {r : R2} (ho : OpR X (compareOp op) r) (ha : L2.PET X a ta) (hb : PE X b tb) (hm : behindInMarks op b = false) : PTT X (.Compare a [op] [b] pos) (tTest (tOp r ta tb)) := by
  intro pins s σ H Q h0 I h
  refine wpAny_isTrue_Compare1 (thn (ha pins s σ H _ h0 I h) fun v s1 ⟨x, H1, I1, r1, q1⟩ => thn (hb.run pins s1 σ H1 _ I1 q1) fun u s2 ⟨y, H2, I2, r2, q2⟩ =>
    thn (ho pins s2 σ H2 x y v u _ I2 r1 r2 q2) fun c s3 ⟨z, H3, I3, r3, k, e, q3⟩ => ?_) hm
  subst e
  cases r3
  exact wpAny_truthy_bool ⟨H3, I3, q3⟩
theorem ptw_or1 (ha : PTT X a tA) : PWT X (.BoolOp .Or [a] pos) tA := by
  intro wh pins s σ H Q h0 I h
  refine isTrue_or (thn (ha pins s σ H Q h0 I h) fun c s1 e => ?_)
  cases c with
  | false => exact isTrue_or_nil e
  | true => exact e
theorem ptw_or (ha : PTT X a tA) (hb : PWT X (.BoolOp .Or (b :: rest) pos) tB') : PWT X (.BoolOp .Or (a :: b :: rest) pos) (tOr tA tB') := by
  intro wh pins s σ H Q h0 I h
  refine isTrue_or (thn (keep_tok h0 (ha pins s σ H _ h0 I h)) fun c s1 ⟨h1, H1, I1, q1⟩ => ?_)
  cases c with
  | true => exact ⟨H1, I1, q1⟩
  | false => exact hb wh pins s1 σ H1 Q h1 I1 q1
theorem pst_ifT (hc : PTT X c tc) (ha : PSs X sa t) (hb : PSs X sb u) : L2.PST X (.If c sa sb pos) (tIfS tc t u) := by
  intro pins s σ H D h0 I h
  refine wpAny_If (thn (hc pins s σ H _ h0 I h) fun d s1 ⟨H1, I1, q1⟩ => ?_)
  cases d with
  | true => exact ha.run pins s1 σ H1 D I1 q1
  | false => exact hb.run pins s1 σ H1 D I1 q1
theorem psst_nox (h : L2.PSsT X.nox sa t) : L2.PSsT X sa t := fun pins s σ H D h0 I hw =>
  wpAny_mono (h pins s σ H D h0 (I.wish _) hw) (fun _ _ q => q.unwish) fun _ _ z => False.elim z
end
section
variable {P : Program} {w : World} {K : PySem.W.Frag} {mg : Str → Option Value} {base : Heap}
theorem okT {x qual : Str} {st : Stmt} {f : Addr} {fd : FuncData} {N ps : List Str} {k : Nat} {sp : Sp} (F : Fun K x qual st f fd) (S : FnScope N ps (defScope st)) (hnc : ∀ y ∈ (defScope st).names, y.2 ≠ .cell) (hps : 1 ≤ ps.length) (len : ∀ vs H Q E, sp vs H Q E → vs.length = ps.length)
    (hbody : ∀ (cdv : Value) (A : Around) (outer : List Env) (s : Shared) (H : Hp) (vs : List V) (Q : VK) (E : XK), Room k (A.deeper (envOfC qual (defScope st) s.heap.objs.size f cdv)) → sp vs H Q E →
      ∃ t, L2.PSsT (cxOf CX0 P w K mg base N qual (defScope st) f cdv A outer s H E).nox (defBody st) t ∧ t { nx := fun _ H' => Q .non H', rt := Q } (start N vs) H) : FnOk P w K mg base CX0 (k + 1) f fd ps sp := by
  obtain ⟨oc, od, kV, doc, pm, an, cdv, ct, osl, rfl, lk, hcd⟩ := F.ex
  refine fn_ofT lk hcd S hnc hps len fun A outer s H vs Q E hr hsp => ?_
  obtain ⟨t, h, q⟩ := hbody cdv A outer s H vs Q E hr hsp
  exact ⟨t, psst_nox h, q⟩
end
section
/-- a sign of a text put for others -/
def sub1 (c : Nat) (z l : List Nat) : List Nat := l.flatMap fun e => if e = c then z else [e]
theorem repl_any {c : Nat} {z : List Nat} : ∀ l : List Nat, StrLaws.replL [c] z l = sub1 c z l
  | [] => StrLaws.replL_nil
  | e :: r => by
    by_cases h : e = c
    · subst h
      rw [StrLaws.replL_hit (List.cons_ne_nil _ _) rfl, show (e :: r).drop [e].length = r from rfl, repl_any r]
      unfold sub1
      rw [List.flatMap_cons, if_pos rfl]
    · rw [StrLaws.replL_miss (y := [c]) (show ¬ (e :: r).take [c].length = [c] from fun z => h (List.cons.inj (show e :: r.take 0 = [c] from z)).1), repl_any r]
      unfold sub1
      rw [List.flatMap_cons, if_neg h]
      rfl
theorem replace_A {l z : List Nat} {c : Nat} : Txt.replace (S l) (S [c]) (S z) = S (sub1 c z l) := by
  refine TL.ext_tl ?_
  show (Txt.replace (S l) (S [c]) (S z)).cps.toList = _
  exact (StrLaws.replace_list (show 1 ≤ (S [c]).length from Nat.le_refl 1)).trans (repl_any l)
theorem ev_replA {σ : L2.St} {H : Hp} {ta : TE} {l z : List Nat} {s1 s2 : Str} {c : Nat} (ha : Ev ta σ H (.str (S l))) (h1 : s1 = S [c]) (h2 : s2 = S z) (hl : l.length ≤ 100000) (hz : z.length ≤ 8) : Ev (CwR.tReplC ta s1 s2) σ H (.str (S (sub1 c z l))) := fun H1 e Q q => by
  subst h1 h2
  refine ha H1 e _ fun H2 e2 => ⟨S l, rfl, ?_, ?_⟩
  · rw [S_len, S_len]
    have : (l.length + 1) * z.length ≤ 100001 * 8 := Nat.mul_le_mul (by omega) hz
    omega
  · rw [replace_A]
    exact q H2 e2
end
end Kn
namespace Kn
open PySem PySem.Spec PyProof.Rows L2 Evl SX
section
variable {X : Cx} {e : Expr} {te : TE} {pos : Pos}
/-- name = value, where the value wants a token -/
theorem pst_set {i : Nat} {x : Str} {pos' : Pos} (hN : X.N.Nodup) (hi : X.N[i]? = some x) (hx : Loc X.env.scope x) (he : L2.PET X e te) (hs : swapsWith e (some (.Name x pos')) pos.line X.env = pure false := by rfl) (hf : X.fn x = true ∨ X.env.scope.names.lookup x = some .local := by first | exact .inl rfl | exact .inr rfl | assumption) :
    L2.PST X (.Assign [.Name x pos'] e pos) (tAsg te (gName i)) := by
  intro pins s σ H D h0 I h
  refine wpAny_Assign_Name (thn (he pins s σ H _ h0 I h) fun v s1 ⟨y, H1, I1, r1, q1⟩ => ?_) hs
  exact store_ok I1 hN hi hx r1 (fun s2 I2 => ⟨_, H1, I2, q1⟩) hf
end
section
variable {σ : L2.St} {H : Hp} {W : WX} {sp : Sp} {tA : TA} {vs : List V} {d : PyData}
theorem q_dropS {D : Ends} {tz : TS} (hA : EvA tA σ H vs) (k : ∀ H1, Ex H H1 → sp vs H1 (fun _ H2 => tz D σ H2) (WE W σ)) : tSeq (tDrop (tCallS sp (WE W) tA)) tz D σ H := hA H (Ex.refl H) _ fun H1 e1 => k H1 e1
theorem s_dropS {D : Ends} (hA : EvA tA σ H vs) (k : ∀ H1, Ex H H1 → sp vs H1 (fun _ H2 => D.nx σ H2) (WE W σ)) : tDrop (tCallS sp (WE W) tA) D σ H := hA H (Ex.refl H) _ fun H1 e1 => k H1 e1
/-- a call that may raise and does not -/
theorem evd_callS (hA : EvA tA σ H vs) (k : ∀ H1, Ex H H1 → ∀ Q : VK, RtD H1 d Q → sp vs H1 Q (WE W σ)) : EvD (tCallS sp (WE W) tA) σ H d := fun H1 e Q q =>
  hA H1 e _ fun H2 e2 => k H2 (e.trans e2) _ fun v H3 e3 hv => q v H3 (e2.trans e3) hv
end
end Kn
namespace Kn
open PySem PySem.Spec PyProof.Rows L2 Evl SX
section
variable {K : PySem.W.Frag} {σ : L2.St} {H H' H1 : Hp} {te t1 t2 : TE}
/-- column, reason -/
def fs2 (c : Nat) (r : List Nat) : List (Str × V) := [("reason", .str (S r)), ("column", .int (c : Int))]
structure Nf2 (K : PySem.W.Frag) (C : Addr) : Prop where
  c : PySem.W.findIn K (.ref C) "column" = some none
  r : PySem.W.findIn K (.ref C) "reason" = some none
def Sm2 (c : Nat) (r : List Nat) : Prop := r.length ≤ 9000 ∧ c < 10 ^ 9
def sp_I2 (K : PySem.W.Frag) : Sp := fun vs H Q _ => ∃ (a C : Addr) (c : Nat) (r : List Nat), vs = [.ref a, .int (c : Int), .str (S r)] ∧ Sm2 c r ∧ H a = some (exo a C none) ∧ OexC K C ∧ Nf2 K C ∧
  ∀ dx H', H dx = none → dx ≠ a → XMade H H' a C dx (fs2 c r) → Q .non H'
theorem raise2 {W : WX} {C : Addr} {r : List Nat} {c : Nat} (oe : OexC K C) (nf : Nf2 K C) (hl : Sm2 c r) (h1 : Ev t1 σ H (.int (c : Int))) (h2 : Ev t2 σ H (.str (S r)))
    (hk : ∀ d H', Ex H H' → H' d = some (.xd (fs2 c r)) → W (.ref C) (some d) σ H') : tMkO C (sp_I2 K) [] (tCons t1 (tCons t2 tNil)) σ H (fun cls d H' => W cls d σ H') :=
  ea_cons h1 (ea_cons h2 ea_nil) H (Ex.refl _) _ fun H2 e2 => ⟨(by show 2 ≤ 1000; decide), fun a na => ⟨a, C, c, r, rfl, hl, upd_same, oe, nf, fun dx H' hdx ne m =>
    ⟨rfl, dx, _, m.1, m.2.1, upd_none hdx, xm_raise e2 na (upd_none hdx) m hk⟩⟩⟩
theorem init2_body {D : Ends} {a C : Addr} {r m : List Nat} {c : Nat} {tj : TE} {σ0 : L2.St} (hσ : σ0 = [some (.ref a), some (.int (c : Int)), some (.str (S r))]) (hj : Ev tj σ0 H (.str (S m))) (ha : H a = some (exo a C none)) (oe : OexC K C) (nf : Nf2 K C)
    (q : ∀ dx H', H dx = none → dx ≠ a → XMade H H' a C dx (fs2 c r) → D.nx σ0 H') : tSeq (tDrop (tVeI K (tCons (tVar 0) (tCons tj tNil)))) (tSeq (tOst K "column" (tVar 0) (tVar 1)) (tOst K "reason" (tVar 0) (tVar 2))) D σ0 H := by
  subst hσ
  refine q_beinit (ev_var rfl) hj oe ha fun H1 e1 => ?_
  refine ⟨_, rfl, _, rfl, a, C, rfl, oe, nf.c, .inl ⟨e1 _ _ ha, fun dx hd ne => ?_⟩⟩
  have m1 := xmade_new (C := C) (f := "column") (v := .int (c : Int)) e1 ne
  refine ⟨_, rfl, _, rfl, a, C, rfl, oe, nf.r, .inr ⟨dx, _, m1.1, m1.2.1, (by show 1 ≤ 900; decide), ?_⟩⟩
  exact q dx _ (fresh_back e1 hd) ne (m1.more (f := "reason") (v := .str (S r)) ne (Ex.refl _))
def Rz2 (H : Hp) (E : XK) (C : Addr) (c : Nat) (r : List Nat) : Prop := ∀ d H', Ex H H' → H' d = some (.xd (fs2 c r)) → E (.ref C) (some d) H'
theorem Rz2.mono {E : XK} {C : Addr} {r : List Nat} {c : Nat} (h : Rz2 H E C c r) (e : Ex H H') : Rz2 H' E C c r := fun d H2 e2 hd => h d H2 (e.trans e2) hd
theorem evd_tupOf {ta : TE} {p : Addr} {vs : List V} {ds : List PyData} (h : Ev ta σ H (.ref p)) (hp : H p = some (.lst vs)) (hd : DtA H vs ds) :
    EvD (tCB (fun xs H Q => ∃ p ys, xs = [.ref p] ∧ ((SqL K H p ys ∧ ∀ l, H l = none → Q (.ref l) (upd H l (.tup ys))) ∨ (SqT K H p ys ∧ Q (.ref p) H))) (tCons ta tNil)) σ H (.tuple ds) := fun H1 e Q q =>
  h H1 e _ fun H2 e2 => ⟨p, vs, rfl, .inl ⟨sq_of ((e.trans e2) _ _ hp), fun l hl => q _ _ (e2.trans (Ex.new hl)) (.tup upd_same ((hd.mono (e.trans e2)).mono (Ex.new hl)))⟩⟩
end
end Kn
/-! ### dead statements, defs with defaults, errors with one field of any kind, dicts with int keys -/
namespace Kn
open PySem PySem.Spec PyProof.Rows L2 Evl SX
theorem ps_dead {X : Cx} {st : Stmt} : PS X st (fun _ _ _ => False) := ⟨fun _ _ _ _ _ _ h => h.elim⟩
def rSortDI (K : PySem.W.Frag) : List V → Hp → VK → Prop := fun xs H Q => ∃ (a : Addr) (kvs : List (Key × V)) (ks : List Int), xs = [.ref a] ∧ Rd H a (.dK kvs) ∧ kvs.map (·.1) = ks.map Sum.inl ∧ ks.length < 64 ∧ ∀ (ys : List Int) (p : Addr), ys.Perm ks → ys.Pairwise (· ≤ ·) → H p = none → Q (.ref p) (upd H p (.lst (ys.map V.int)))
theorem cr_sortDI {X : Cx} (h : X.calm = true) : CallR X (.builtin "sorted") (rSortDI X.K) := call_sortedDI h
theorem cr_max2 {X : Cx} (h : X.calm = true) : CallR X (.builtin "max") Evl.rMax2 := call_max2 h
def rMn2 : List V → Hp → VK → Prop := fun xs H Q => ∃ i j : Int, xs = [.int i, .int j] ∧ Q (.int (if j < i then j else i)) H
theorem cr_min2 {X : Cx} (h : X.calm = true) : CallR X (.builtin "min") rMn2 := call_min2 h
/-- a class made by its name with its defaults -/
structure MkrD (P : Program) (w : World) (K : PySem.W.Frag) (mg : Str → Option Value) (base : Heap) (k : Nat) (x : Str) (C : Addr) (sp : Sp) (dvs : List V) : Prop where
  ex : ∃ (f : Addr) (fd : FuncData) (ps : List Str) (ds : List Value), Mk K C f ∧ FnOk P w K mg base CX0 k f fd ps sp ∧ mg x = some (.ref C) ∧ Binds K fd ps ds ∧ Vals dvs ds
theorem pe_mkrD0 {X : Cx} {k j : Nat} {C : Addr} {x : Str} {sp : Sp} {dvs : List V} {p pos : Pos} (c : MkrD X.prog X.w X.K X.mg X.base k x C sp dvs) (hr : Room j X.A) (hk : k + 1 ≤ j) (hg : Gl X x) (hdb : (x == ("__debug__" : Str)) = false := by decide) :
    PE X (.Call (.Name x p) [] [] pos) (tMake C sp dvs E0 tNil) := by
  obtain ⟨f, fd, ps, ds, M, F, hm, b, d⟩ := c.ex
  exact pe_make0 M F (hr.mono hk) hg hm b d pass0 hdb
theorem dfl_one {K : PySem.W.Frag} {T : Addr} {c : Value} {od : Option Addr} {n : Nat} {sl : Array (Option Value)} {u : Value} {v : V} (h : K.lookup T = some ⟨c, od, .seq #[u] n, sl⟩) (r : RelV v u) : DflV K (.ref T) [v] :=
  .inr ⟨by simp, T, _, [u], n, rfl, h, rfl, .cons r .nil⟩
section
variable {K : PySem.W.Frag} {σ : L2.St} {H H1 H' : Hp} {ta tb td ty te tv : TE} {D : Ends} {tz : TS} {a d C : Addr} {kvs : List (Key × V)} {k : Int} {v : V} {f : Str}
def sp_I1v (f : Str) (K : PySem.W.Frag) : Sp := fun vs H Q _ => ∃ (a C : Addr) (v : V), vs = [.ref a, v] ∧ H a = some (exo a C none) ∧ OexC K C ∧ PySem.W.findIn K (.ref C) f = some none ∧
  ∀ dx H', H dx = none → dx ≠ a → XMade H H' a C dx [(f, v)] → Q .non H'
theorem raise1v {W : WX} (oe : OexC K C) (nf : PySem.W.findIn K (.ref C) f = some none) (hv : Ev te σ H v)
    (hk : ∀ d H', Ex H H' → H' d = some (.xd [(f, v)]) → W (.ref C) (some d) σ H') : tMkO C (sp_I1v f K) [] (tCons te tNil) σ H (fun cls d H' => W cls d σ H') :=
  hv H (Ex.refl _) _ fun H2 e2 => ⟨(by show 1 ≤ 1000; decide), fun a na => ⟨a, C, v, rfl, upd_same, oe, nf, fun dx H' hdx ne m =>
    ⟨rfl, dx, _, m.1, m.2.1, upd_none hdx, xm_raise e2 na (upd_none hdx) m hk⟩⟩⟩
theorem init1v_body {m : List Nat} {tj : TE} (hj : Ev tj [some (.ref a), some v] H (.str (S m))) (ha : H a = some (exo a C none)) (oe : OexC K C) (nf : PySem.W.findIn K (.ref C) f = some none)
    (q : ∀ dx H', H dx = none → dx ≠ a → XMade H H' a C dx [(f, v)] → D.nx [some (.ref a), some v] H') : tSeq (tDrop (tVeI K (tCons (tVar 0) (tCons tj tNil)))) (tOst K f (tVar 0) (tVar 1)) D [some (.ref a), some v] H := by
  refine q_beinit (ev_var rfl) hj oe ha fun H1 e1 => ?_
  exact ⟨_, rfl, _, rfl, a, C, rfl, oe, nf, .inl ⟨e1 _ _ ha, fun dx hd ne => q dx _ (fresh_back e1 hd) ne (xmade_new e1 ne)⟩⟩
/-- raised: a new error with one field -/
def Rzv (H : Hp) (E : XK) (C : Addr) (f : Str) (v : V) : Prop := ∀ d H', Ex H H' → H' d = some (.xd [(f, v)]) → E (.ref C) (some d) H'
theorem Rzv.mono {E : XK} (h : Rzv H E C f v) (e : Ex H H') : Rzv H' E C f v := fun d H2 e2 hd => h d H2 (e.trans e2) hd
theorem ev_dgetI (h1 : Ev td σ H (.ref d)) (h2 : Ev ty σ H (.int k)) (hd : H d = some (.dK kvs)) (hv : valV kvs (Sum.inl k) = some v) : Ev (tDGet td ty) σ H v := fun H1 e Q q =>
  h1 H1 e _ fun H2 e2 => h2 H2 (e.trans e2) _ fun H3 e3 => ⟨d, v, rfl, by
    have g := DGet.k (k := (Sum.inl k : Key)) (((e.trans e2).trans e3) _ _ hd)
    rw [hv] at g
    exact g, q H3 (e2.trans e3)⟩
theorem ev_dinI (h2 : Ev ty σ H (.int k)) (h1 : Ev td σ H (.ref d)) (hd : H d = some (.dK kvs)) : Ev (tDIn ty td) σ H (.bl (valV kvs (Sum.inl k)).isSome) := fun H1 e Q q =>
  h2 H1 e _ fun H2 e2 => h1 H2 (e.trans e2) _ fun H3 e3 => ⟨d, _, rfl, DGet.k (k := (Sum.inl k : Key)) (((e.trans e2).trans e3) _ _ hd), q H3 (e2.trans e3)⟩
theorem ev_dninI (h2 : Ev ty σ H (.int k)) (h1 : Ev td σ H (.ref d)) (hd : H d = some (.dK kvs)) : Ev (tDNotIn ty td) σ H (.bl (!(valV kvs (Sum.inl k)).isSome)) := fun H1 e Q q =>
  h2 H1 e _ fun H2 e2 => h1 H2 (e.trans e2) _ fun H3 e3 => ⟨d, _, rfl, DGet.k (k := (Sum.inl k : Key)) (((e.trans e2).trans e3) _ _ hd), q H3 (e2.trans e3)⟩
theorem s_dputI (hv : Ev tv σ H v) (h1 : ∀ H1, Ex H H1 → Ev td σ H1 (.ref d)) (h2 : ∀ H1, Ex H H1 → Ev ty σ H1 (.int k)) (hd : H d = some (.dK kvs)) (hl : kvs.length < 100000) (q : ∀ H1, Ex H H1 → D.nx σ (L2.upd H1 d (.dK (putK kvs (Sum.inl k) v)))) : sDPut td ty tv D σ H :=
  hv H (Ex.refl H) _ fun H1 e1 => h1 H1 e1 H1 (Ex.refl H1) _ fun H2 e2 => h2 H2 (e1.trans e2) H2 (Ex.refl H2) _ fun H3 e3 => ⟨d, _, rfl, DPut.k (k := (Sum.inl k : Key)) (((e1.trans e2).trans e3) _ _ hd) (sz_lt hl), q H3 ((e1.trans e2).trans e3)⟩
theorem q_dputI (hv : Ev tv σ H v) (h1 : ∀ H1, Ex H H1 → Ev td σ H1 (.ref d)) (h2 : ∀ H1, Ex H H1 → Ev ty σ H1 (.int k)) (hd : H d = some (.dK kvs)) (hl : kvs.length < 100000) (q : ∀ H1, Ex H H1 → tz D σ (L2.upd H1 d (.dK (putK kvs (Sum.inl k) v)))) : tSeq (sDPut td ty tv) tz D σ H :=
  s_dputI (D := { D with nx := tz D }) hv h1 h2 hd hl q
theorem s_ddelI (h1 : Ev td σ H (.ref d)) (h2 : ∀ H1, Ex H H1 → Ev ty σ H1 (.int k)) (hd : H d = some (.dK kvs)) (hs : (valV kvs (Sum.inl k)).isSome = true) (q : ∀ H1, Ex H H1 → D.nx σ (L2.upd H1 d (.dK (dropK kvs (Sum.inl k))))) : sDDel td ty D σ H :=
  h1 H (Ex.refl H) _ fun H2 e2 => h2 H2 e2 H2 (Ex.refl H2) _ fun H3 e3 => ⟨d, kvs, Sum.inl k, rfl, (e2.trans e3) _ _ hd, rfl, hs, q H3 (e2.trans e3)⟩
theorem s_dpopI (h1 : Ev td σ H (.ref d)) (h2 : ∀ H1, Ex H H1 → Ev ty σ H1 (.int k)) (hd : H d = some (.dK kvs)) (hs : valV kvs (Sum.inl k) = some v) (q : ∀ H1, Ex H H1 → D.nx σ (L2.upd H1 d (.dK (dropK kvs (Sum.inl k))))) : tDrop (tDPop1 td ty) D σ H :=
  h1 H (Ex.refl H) _ fun H2 e2 => ⟨d, rfl, .inl ⟨kvs, .inl (e2 _ _ hd)⟩, h2 H2 e2 H2 (Ex.refl H2) _ fun H3 e3 => ⟨kvs, Sum.inl k, v, (e2.trans e3) _ _ hd, rfl, hs, q H3 (e2.trans e3)⟩⟩
end
theorem dta_ints {H : Hp} : ∀ ks : List Int, DtA H (ks.map V.int) (ks.map .int)
  | [] => .nil
  | k :: r => .cons (.int k) (dta_ints r)
theorem canL_ints : ∀ ks : List Int, PyData.canLayAll0 (ks.map .int) = true
  | [] => rfl
  | k :: r => can_cons (by simp [PyData.canLay0]) (canL_ints r)
theorem depth_ints : ∀ ks : List Int, PyData.depthAll (ks.map .int) = 0
  | [] => rfl
  | k :: r => by
    show max 0 (PyData.depthAll (r.map .int)) = 0
    rw [depth_ints r]
    rfl
theorem shaped_ints (ks : List Int) : SeqAt.shaped (.list (ks.map .int)) = true := by
  show (PyData.canLayAll0 (ks.map .int) && decide (PyData.depthAll (ks.map .int) + 1 ≤ 64)) = true
  rw [canL_ints ks, depth_ints]
  rfl
theorem ints_uniq {l m : List Int} (h1 : l.Pairwise (· ≤ ·)) (h2 : m.Pairwise (· ≤ ·)) (p : l.Perm m) : l = m :=
  List.Perm.eq_of_pairwise (fun _ _ _ _ a b => Int.le_antisymm a b) h1 h2 p
theorem cutV_some {τ : Type} {g : τ → V} (ns : List τ) (lo hi : Option Int) : ∃ ms : List τ, cutV (ns.map g) lo hi = ms.map g ∧ (∀ x ∈ ms, x ∈ ns) ∧ ms.length ≤ ns.length := by
  unfold cutV
  rw [List.length_map]
  refine ⟨(ns.drop (HT.sIx ns.length 0 lo)).take (HT.sIx ns.length ns.length hi - HT.sIx ns.length 0 lo), by rw [List.map_take, List.map_drop], fun x hx => List.mem_of_mem_drop (List.mem_of_mem_take hx), ?_⟩
  rw [List.length_take, List.length_drop]
  omega
section
variable {K : PySem.W.Frag} {σ : L2.St} {H H1 H' : Hp} {ta tb td ty te tv : TE} {a d C B dd : Addr} {kvs : List (Key × V)} {k : Int} {v : V} {f : Str} {fs : List (Str × V)} {i : Nat}
/-- a field of the error in hand -/
theorem ev_xf (hσ : σ[i]? = some (some (.ref a))) (hd : H dd = some (.xd fs)) (hl : fs.lookup f = some v) : Ev (tXf a (.ref C) (some dd) C f (tVar i)) σ H v := fun H1 e Q q =>
  ⟨_, hσ, rfl, rfl, dd, fs, v, rfl, e _ _ hd, hl, q H1 (Ex.refl _)⟩
theorem ev_isX (X : Xc K C B) (hσ : σ[i]? = some (some (.ref a))) (hd : H dd = some (.xd fs)) : Ev (tCB (rIsX K a (.ref C) (some dd)) (tCons (tVar i) (tCons (tC (.ref B)) tNil))) σ H (.bl true) := fun H1 e Q q =>
  ⟨_, hσ, C, dd, fs, .ref B, _, true, rfl, rfl, X.xc, e _ _ hd, rfl, fun u h => h, X.kB, q H1 (Ex.refl _)⟩
theorem evd_sortDI {ks ys : List Int} (hb : Ev tb σ H (.ref a)) (ha : H a = some (.dK kvs)) (hk : kvs.map (·.1) = ks.map Sum.inl) (hn : ks.length < 64) (hp : ys.Perm ks) (hs : ys.Pairwise (· ≤ ·)) : EvD (tCB (rSortDI K) (tCons tb tNil)) σ H (.list (ys.map .int)) := fun H1 e Q q =>
  hb H1 e _ fun H2 e2 => ⟨a, kvs, ks, rfl, .inl ((e.trans e2) _ _ ha), hk, hn, fun zs p hz hsz hnp => by
    have := ints_uniq hsz hs (hz.trans hp.symm)
    subst this
    exact q _ _ (e2.trans (Ex.new hnp)) (.lst upd_same (dta_ints _))⟩
theorem rv_neBB {b : Bool} : RV rNe (.bl b) (.bl b) H (.bl false) := fun H1 _ _ q => ⟨rfl, by
  have e : decide (V.bl b = V.bl b) = true := by simp
  rw [e]
  exact q H1 (Ex.refl H1)⟩
end
section
variable {K : PySem.W.Frag} {σ : L2.St} {H : Hp} {ta tb : TE}
theorem ev_mn2 {i j : Int} (ha : Ev ta σ H (.int i)) (hb : Ev tb σ H (.int j)) : Ev (tCB rMn2 (tCons ta (tCons tb tNil))) σ H (.int (if j < i then j else i)) := fun H1 e Q q =>
  ha H1 e _ fun H2 e2 => hb H2 (e.trans e2) _ fun H3 e3 => ⟨i, j, rfl, q H3 (e2.trans e3)⟩
theorem ev_ixLit {xs : List V} {v : V} {i : Nat} {j : Int} (ha : EvL ta σ H xs) (hb : Ev tb σ H (.int j)) (hj : j = (i : Int)) (h : xs[i]? = some v) : Ev (tOp (rIxL K) ta tb) σ H v := fun H1 e Q q =>
  ha H1 e _ fun p H2 np e2 hp => hb H2 (e.trans e2) _ fun H3 e3 => ⟨p, xs, j, v, rfl, rfl, sq_of (e3 _ _ hp), atI_nat' hj h, q H3 (e2.trans e3)⟩
end
section
variable {σ : L2.St} {H : Hp} {tA : TA} {sp : Sp} {E : XK} {vs : List V} {D : Ends} {tz tu tw : TS} {g : TG} {tc : TT} {b0 : Bool}
theorem q_asgC (hA : EvA tA σ H vs) (k : ∀ H1, Ex H H1 → sp vs H1 (fun v H2 => g v σ H2 (tz D)) E) : tSeq (tAsg (tCall sp [] E tA) g) tz D σ H := hA H (Ex.refl H) _ fun H1 e1 => by
  rw [List.append_nil]
  exact k H1 e1
/-- if not f(..): where the call may change the heap -/
theorem q_whenNC (hA : EvA tA σ H vs) (k : ∀ H1, Ex H H1 → sp vs H1 (fun v H2 => ∃ b, v = .bl b ∧ if (!b) = true then tu { D with nx := tz D } σ H2 else tw { D with nx := tz D } σ H2) E) : tSeq (tIfS (tNot (tB (tCall sp [] E tA))) tu tw) tz D σ H := hA H (Ex.refl H) _ fun H1 e1 => by
  rw [List.append_nil]
  exact k H1 e1
theorem q_whenAC (hc : EvT tc σ H b0) (hA : ∀ H1, Ex H H1 → EvA tA σ H1 vs) (k0 : b0 = false → ∀ H1, Ex H H1 → tw { D with nx := tz D } σ H1)
    (k : b0 = true → ∀ H1, Ex H H1 → sp vs H1 (fun v H2 => ∃ b, v = .bl b ∧ if (!b) = true then tu { D with nx := tz D } σ H2 else tw { D with nx := tz D } σ H2) E) : tSeq (tIfS (tAnd tc (tNot (tB (tCall sp [] E tA)))) tu tw) tz D σ H := hc H (Ex.refl H) _ fun H1 e1 => by
  cases b0 with
  | false => exact k0 rfl H1 e1
  | true =>
    refine hA H1 e1 H1 (Ex.refl H1) _ fun H2 e2 => ?_
    rw [List.append_nil]
    exact k rfl H2 (e1.trans e2)
end
end Kn

/-! ### set(xs) and len(set(xs)) of different texts -/
namespace Kn.Sets
open PySem PySem.Spec PyProof.Rows
section
variable {prog : Program} {w : World} {A : Around}
/-- the texts that are in, behind i turns -/
def seen (xs : List Str) (i : Nat) : Str → Bool := fun z => (xs.take i).any (· == z)
theorem seen_next {xs : List Str} {i : Nat} {x : Str} (h : xs[i]? = some x) (z : Str) : (seen xs i z || decide (z = x)) = seen xs (i + 1) z := by
  unfold seen
  rw [List.take_add_one, h, List.any_append]
  congr 1
  show _ = ((x == z) || false)
  rw [Bool.or_false]
  by_cases e : z = x
  · rw [decide_eq_true e, e, beq_self_eq_true]
  · rw [decide_eq_false e]
    exact (beq_eq_false_iff_ne.mpr fun y => e y.symm).symm
theorem seen_not {xs : List Str} {i : Nat} {x : Str} (nd : xs.Nodup) (h : xs[i]? = some x) : seen xs i x = false := by
  unfold seen
  rw [List.any_eq_false]
  intro y hy
  obtain ⟨j, hj⟩ := List.mem_iff_getElem?.mp hy
  rw [List.getElem?_take] at hj
  split at hj
  · next hji =>
    intro e
    have e2 : y = x := by simpa using e
    have h1 := (List.getElem?_eq_some_iff.mp h).1
    have h2 := (List.getElem?_eq_some_iff.mp hj).1
    have := (List.getElem?_inj (j := j) h1 nd).mp (h.trans (by rw [hj, e2]))
    omega
  · cases hj
/-- one turn after another -/
theorem turns {I S : Addr} {fp wr : List Addr} {G : Array GenState → Array GenState → Prop} {n : Nat} {Pi : Nat → Value → Prop} {St : Nat → Shared → Prop} {R : Result → Shared → Prop} (W : WalksS prog w A.in1 I fp wr G n Pi St) (hS : S ∉ fp)
    {xs : List Str} (hn : xs.length = n) (few : n + 1 < scanBound) (nd : xs.Nodup) (at' : ∀ i v, Pi i v → ∃ x t, xs[i]? = some x ∧ v = .str x t) (d : Nat) :
    ∀ (i : Nat) (s : Shared), i + d = n → St i s → s.heap.SetOf (PySem.strKind prog w) S (seen xs i) i →
      (∀ s', Moved (S :: wr) G s s' → s'.heap.SetOf (PySem.strKind prog w) S (seen xs n) n → R (.ok (.ret .none)) s') → codeAny (model prog w) A (.builtin "set.update.loop" ⟨[.ref S, .ref I], []⟩) R s := by
  have out : S ∉ wr := fun z => hS (W.sub _ z)
  have more : ∀ b ∈ wr, b ∈ S :: wr := fun b z => List.mem_cons_of_mem _ z
  have kept : ∀ {s s' : Shared} {f : Str → Bool} {m : Nat}, Moved wr G s s' → s.heap.SetOf (PySem.strKind prog w) S f m → s'.heap.SetOf (PySem.strKind prog w) S f m := fun hm ⟨o, es, ep, tb, ho, r⟩ => ⟨o, es, ep, tb, hm.heap S _ out ho, r⟩
  induction d with
  | zero =>
    intro i s e st so k
    obtain rfl : i = n := e
    refine codeAny_builtin F.entry_set_update_loop ?_
    rw [Around.under_plainId F.plain_set_update_loop _]
    exact wpAny_bind (W.done s _ _ st fun s' hm => wpAny_pure (k s' (hm.mono more) (kept hm so)))
  | succ d ih =>
    intro i s e st so k
    have lt : i < n := by omega
    refine codeAny_builtin F.entry_set_update_loop ?_
    rw [Around.under_plainId F.plain_set_update_loop _]
    refine wpAny_bind (W.item i s _ _ lt st fun v s' hP st' hm => ?_)
    obtain ⟨x, t, hx, rfl⟩ := at' i v hP
    have so1 := kept hm so
    refine wpAny_bind (m := holding [Value.str x t] (setAdd S (.str x t))) (wpAny_holding ?_)
    unfold setAdd
    refine wpAny_holding (wpAny_bind ((PySem.strKind prog w).pyHash (k := x) (strKind_is _ _ _ _) ?_))
    refine wpAny_setAddHashed_of (knd := PySem.strKind prog w) (s := { s' with toks := s'.toks + 1 }) (strKind_is _ _ _ _) rfl so1 (by omega) fun h' same so2 => ?_
    rw [if_neg (by rw [seen_not nd hx]; decide)] at so2
    have so3 := SetOf_congr so2 (seen_next hx) rfl
    refine wpAny_pure ⟨plainId_quiet F.plain_set_update_loop _, ih (i + 1) _ (by omega) (W.frame _ s' _ _ st' (Nat.le_succ _) fun b hb o e => ?_) so3 fun s2 hm2 so4 => ?_⟩
    · rw [same.2 b fun z => hS (z ▸ hb)]
      exact e
    · refine k s2 (Moved.trans W.gtrans ((hm.mono more).then_heap (Nat.le_succ _) fun b o hb e => ?_) hm2) so4
      rw [same.2 b fun z => hb (z ▸ List.mem_cons_self)]
      exact e
end
/-- a new set, empty -/
def newS (led : Bool) : Obj := { cls := .type "set", dict := none, data := .set #[] 0 (.fresh 0 0 led) }
/-- a walk's iterator over the list at l -/
def itS (l : Addr) : Obj := { cls := .type "list_iterator", data := .fields #[.ref l, .int 0 0] }
/-- the texts are in the set at the end of h; h' keeps what was in h -/
def Full (prog : Program) (w : World) (h : Heap) (xs : List Str) (h' : Heap) : Prop := h'.SetOf (PySem.strKind prog w) h.objs.size (seen xs xs.length) xs.length ∧ ∀ b o, b < h.objs.size → h.get? b = some o → h'.get? b = some o
section
variable {prog : Program} {w : World} {A : Around} {E : Value → Shared → Prop} {s : Shared}
theorem make {l : Addr} {items : Array Value} {xs : List Str} {Q : Value → Shared → Prop} (hh : A.handled = none) (hl : s.heap.IsList l items) (at' : ∀ (i : Nat) (v : Value), items[i]? = some v → ∃ (x : Str) (t : Tok), xs[i]? = some x ∧ v = .str x t) (hn : xs.length = items.size) (nd : xs.Nodup) (few : items.size + 1 < scanBound)
    (q : ∀ (h' : Heap) (tk : Nat), Full prog w s.heap xs h' → Q (.ref s.heap.objs.size) { s with heap := h', toks := tk }) : wpAny (model prog w) A (call (.type "set") [.ref l]) Q E s := by
  have z1 := PySem.F.called_set.made
  have z2 := PySem.F.called_set.sub
  have z3 := PySem.F.called_set.notType
  have z4 := PySem.F.called_set.canCreate
  have z5 := PySem.F.typeCall_set_1 (.ref l)
  have ⟨_, _, z6⟩ := PySem.F.called_set.mro
  refine wpAny_call (codeAny_of_tree (show wpAny _ _ (callAny (.type "set") _) _ _ _ from wpAny_pure ⟨Code.quiet_builtin _ (by decide +kernel), codeAny_builtin PySem.F.entry_type_call ?_⟩))
  rw [Around.under_plain (weight_type_call_type "set" [.ref l] []) rfl]
  repeat (any_goals (first | assumption | wp_step))
  refine codeAny_mono (code_set_new_1 (.ref l) (E := E) (Q₁ := fun v s1 => ∃ led, v = .ref s.heap.objs.size ∧ s1 = { s with heap := s.heap.push (newS led) }) fun led => ⟨led, rfl, rfl⟩) fun r s1 hr => ?_
  match r, hr with
  | .error e, hr => exact hr
  | .ok (.ret v), hr =>
    obtain ⟨led, rfl, rfl⟩ := hr
    have new : (s.heap.push (newS led)).get? s.heap.objs.size = some (newS led) := Heap.get?_push_size _ rfl
    have isS : Shared.TypeIs { s with heap := s.heap.push (newS led) } (.ref s.heap.objs.size) "set" := ⟨_, new, rfl⟩
    have z7 := PySem.F.called_set.init.lookup
    have z8 := PySem.F.called_set.init.bind (.ref s.heap.objs.size)
    repeat (any_goals (first | assumption | wp_step))
    refine codeAny_mono (codeAny_call_builtin (R := wants (fun r s2 => r = .none ∧ ∃ h' tk, s2 = { s with heap := h', toks := tk } ∧ Full prog w s.heap xs h') E) PySem.F.called_set.init.plain PySem.F.entry_set_init (check_set_init_1 isS ?_)) fun r2 s2 hr2 => ?_
    · obtain ⟨⟨oc, od, oda, osl⟩, ho, hcl, m, hda⟩ := hl
      cases (show oc = .type "list" from hcl)
      cases (show oda = .seq items m from hda)
      have ho2 : (s.heap.push (newS led)).get? l = some { cls := .type "list", dict := od, data := .seq items m, slots := osl } := Heap.get?_push_of_some _ ho
      have hl2 : (s.heap.push (newS led)).IsList l items := ⟨_, ho2, rfl, m, rfl⟩
      have y1 := PySem.F.sub_list_set
      have y2 := PySem.F.sub_list_frozenset
      have y3 : (Value.type "list" == Value.type "dict") = false := by decide
      unfold Builtin.«set.__init__» noKeywords Builtin.Frozenset.updateFrom
      generalize hp : pyIter = pI
      wp_walk
      subst hp
      refine wpAny_pyIter_list hl2 (wpAny_bind (wpAny_runValue ?_))
      have ll : l < s.heap.objs.size := Heap.lt_size ho
      have sz : (s.heap.push (newS led)).objs.size = s.heap.objs.size + 1 := Heap.size_push ..
      have n1 : l ≠ (s.heap.push (newS led)).objs.size := by rw [sz]; exact Nat.ne_of_lt (Nat.lt_succ_of_lt ll)
      have n2 : s.heap.objs.size ∉ [(s.heap.push (newS led)).objs.size, l] := by simp only [List.mem_cons, List.not_mem_nil, or_false, sz, not_or]; exact ⟨Nat.ne_of_lt (Nat.lt_succ_self _), Nat.ne_of_gt ll⟩
      have so : ((s.heap.push (newS led)).push (itS l)).SetOf (PySem.strKind prog w) s.heap.objs.size (seen xs 0) 0 := SetOf_congr ((setObjOf_fresh (knd := PySem.strKind prog w) led).setOf (Heap.get?_push_of_some _ new) (by unfold scanBound; omega)) (fun _ => rfl) rfl
      refine turns ((Walks.list (show A.in1.in1.in1.handled = none by simp [hh]) _ l n1 items).toS) n2 hn (by omega) nd at' items.size 0 _ (by omega) ⟨⟨_, Heap.get?_push_size _ rfl, rfl, rfl⟩, hl2.push _⟩ so fun s' hm so' => ?_
      obtain ⟨h', g', d', tk', os'⟩ := s'
      cases (show g' = s.gens from hm.gens)
      cases (show d' = s.drawn from hm.drawn)
      cases (show os' = s.os from hm.os)
      refine wpAny_pure (wpAny_pure ⟨rfl, h', tk', rfl, by rw [hn]; exact so', fun b o hb e => ?_⟩)
      refine hm.heap b o ?_ (Heap.get?_push_of_some _ (Heap.get?_push_of_some _ e))
      simp only [List.mem_cons, List.not_mem_nil, or_false, sz, not_or]
      exact ⟨Nat.ne_of_lt hb, Nat.ne_of_lt (Nat.lt_succ_of_lt hb)⟩
    · match r2, hr2 with
      | .error e, hr2 => exact hr2
      | .ok (.ret v), hr2 =>
        obtain ⟨rfl, h', tk, rfl, f⟩ := hr2
        repeat (any_goals (first | assumption | wp_step))
        exact q _ _ f
end
end Kn.Sets
namespace Kn
open PySem PySem.Spec PyProof.Rows L2
section
variable {X : Cx}
/-- len(set(xs)), xs a list of different texts -/
def tLenSetN (K : PySem.W.Frag) (ta : TE) : TE := fun σ H Q => ta σ H fun x H1 => ∃ (l : Addr) (xs : List Str), x = .ref l ∧ SqL K H1 l (xs.map V.str) ∧ xs.Nodup ∧ xs.length ≤ 4000 ∧ Q (.int xs.length) H1
theorem texts_at {xs : List Str} {us : List Value} (r : Vals (xs.map V.str) us) : xs.length = us.length ∧ ∀ (i : Nat) (v : Value), us[i]? = some v → ∃ (x : Str) (t : Tok), xs[i]? = some x ∧ v = .str x t := by
  refine ⟨by rw [← r.length, List.length_map], fun i v h => ?_⟩
  have lt : i < xs.length := by
    have := (List.getElem?_eq_some_iff.mp h).1
    rw [← r.length, List.length_map] at this
    exact this
  obtain ⟨u, hu, ru⟩ := r.get (i := i) (x := .str xs[i]) (by simp [lt])
  cases h.symm.trans hu
  obtain ⟨t, rfl⟩ := ru
  exact ⟨xs[i], t, List.getElem?_eq_getElem lt, rfl⟩
theorem pe_lenSetN {a : Expr} {ta : TE} {p p2 q pos : Pos} (hc : X.calm = true) (hg : Gl X "len") (hm : X.mg "len" = none) (hg2 : Gl X "set") (hm2 : X.mg "set" = none) (ha : PE X a ta)
    (na : starEach [a] X.env = (false, eval a X.env) :: starEach [] X.env := by rfl) : PE X (.Call (.Name "len" p) [.Call (.Name "set" p2) [a] [] q] [] pos) (tLenSetN X.K ta) := ⟨fun pins s σ H Q I h => by
  refine Call_ (ld_blt I hg hm boot_len (callWith_builtin1 (args_cons ?_ rfl) rfl rfl))
  refine Call_ (ld_blt I hg2 hm2 boot_set (callWith_type1 (args_cons (thn (ha.run pins s σ H _ I h) fun v s1 z => args_nil ?_) na) na rfl))
  obtain ⟨x, H1, I1, r1, l, xs, rfl, hq, nd, few, q1⟩ := z
  cases r1
  obtain ⟨us, r, pl, _⟩ := I1.list hq
  obtain ⟨hl, at'⟩ := texts_at r
  have hsz : xs.length = us.toArray.size := by rw [List.size_toArray]; exact hl
  refine Sets.make (I1.ok.hd hc) pl.isList (fun i v e => at' i v (by simpa using e)) hsz nd (by unfold scanBound; omega) fun h' tk f => args_nil ?_
  obtain ⟨⟨o, es, ep, t, ho, hex, hd, _, _, _, hf, hn⟩, hk⟩ := f
  have I2 : Inv X pins σ H1 { s1 with heap := h', toks := tk } := I1.kept fun b o e => hk b o (Heap.lt_size e) e
  exact call_len_set ho hex hd hf (by rw [hn]; omega) ⟨.int xs.length, H1, I2.tok _, ⟨_, by rw [hn]⟩, q1⟩⟩
end
end Kn

/-! ### rules: is True, classes made with arguments, texts of digits, enumerate, comprehensions of new tuples -/
namespace Kn
open PySem PySem.Spec PyProof.Rows L2 Evl SX
def snV : V → Bool
  | .non => true
  | .bl _ => true
  | .int _ => true
  | _ => false
def rIsB : R2 := fun x y H Q => ∃ b, y = .bl b ∧ snV x = true ∧ Q (.bl (decide (x = .bl b))) H
theorem op_isB {X : Cx} : OpR X (compareOp .Is) rIsB := by
  intro pins s σ H x y v u Q I rx ry h
  obtain ⟨b, rfl, hx, q⟩ := h
  cases ry
  cases x with
  | non => cases rx; exact wpAny_pure (fin_bl I q (by simp))
  | bl c => cases rx; exact wpAny_pure (fin_bl I q (by cases b <;> cases c <;> rfl))
  | int i => obtain ⟨t, rfl⟩ := rx; exact wpAny_pure (fin_bl I q (by simp))
  | _ => cases hx
section
variable {X : Cx} {k j : Nat} {C : Addr} {x m : Str} {sp : Sp} {p pos apos : Pos} {e o : Expr} {es : List Expr} {ta : TE} {t : TA}
theorem pe_mkr (c : Mkr X.prog X.w X.K X.mg X.base k x C sp) (hr : Room j X.A) (hk : k + 1 ≤ j) (hg : Gl X x) (ha : PA X (e :: es) t) (hdb : (x == ("__debug__" : Str)) = false := by decide)
    (hst : starEach (e :: es) X.env = (false, eval e X.env) :: starEach es X.env := by rfl) (hpl : (backTo pos (starEach es X.env)).any (·.1) = false := by rfl) :
    PE X (.Call (.Name x p) (e :: es) [] pos) (tMake C sp [] E0 t) := by
  obtain ⟨f, fd, ps, M, F, hm, b⟩ := c.ex
  exact pe_make M F (hr.mono hk) hg hm b .nil pass0 ha hdb hst hpl
end
def rAsc : V → List V → Hp → VK → Prop := fun x xs H Q => ∃ a, x = .str a ∧ xs = [] ∧ True ∧ Q (.bl (Txt.isascii a)) H
theorem mt_asc {X : Cx} : MtR X "str.isascii" rAsc := L2.mt_isascii
def rDig : V → List V → Hp → VK → Prop := fun x xs H Q => ∃ a, x = .str a ∧ xs = [] ∧ True ∧ Q (.bl (Txt.isdigit a)) H
theorem mt_dig {X : Cx} : MtR X "str.isdigit" rDig := L2.mt_isdigit
def rPart : V → List V → Hp → VK → Prop := fun x xs H Q => ∃ a b, x = .str a ∧ xs = [.str b] ∧ (b.length == 0) = false ∧ a.length ≤ sizeLine ∧ ∀ p, H p = none → Q (.ref p) (upd H p (.tup [.str (Txt.partition a b).1, .str (Txt.partition a b).2.1, .str (Txt.partition a b).2.2]))
theorem mt_part {X : Cx} : MtR X "str.partition" rPart := L2.mt_partition
def rIntS : List V → Hp → VK → Prop := fun xs H Q => ∃ a n, xs = [.str a] ∧ PySem.intText? a = some n ∧ a.length ≤ 640 ∧ Q (.int n) H
theorem cr_intS {X : Cx} : CallR X (.type "int") rIntS := call_int_str
def rTupS (K : PySem.W.Frag) : List V → Hp → VK → Prop := fun xs H Q => ∃ p ys, xs = [.ref p] ∧ ((SqL K H p ys ∧ ∀ l, H l = none → Q (.ref l) (upd H l (.tup ys))) ∨ (SqT K H p ys ∧ Q (.ref p) H))
theorem cr_tupS {X : Cx} : CallR X (.type "tuple") (rTupS X.K) := call_tuple_of
theorem cr_listS {X : Cx} : CallR X (.type "list") (rListS X.K) := call_list_of
section
variable {K : PySem.W.Frag} {σ : L2.St} {H H1 H' : Hp} {ta tb tc te tl tas : TE} {tA : TA} {a d C p : Addr} {v x : V} {D : Ends} {tu tw tz : TS} {xs ys : List V}
theorem EvU.mono (e : Ex H H') (h : EvU te σ H xs) : EvU te σ H' xs := fun H1 a Q q => h H1 (e.trans a) Q q
theorem rv_isB {b : Bool} (hx : snV x = true) : RV rIsB x (.bl b) H (.bl (decide (x = .bl b))) := fun H1 _ _ q => ⟨b, rfl, hx, q H1 (Ex.refl H1)⟩
theorem ev_asc {l : List Nat} (h : Ev ta σ H (.str (S l))) : Ev (tM0 rAsc ta) σ H (.bl (Txt.isascii (S l))) := fun H1 e Q q => h H1 e _ fun H2 e2 => ⟨⟨S l, rfl⟩, S l, rfl, rfl, trivial, q H2 e2⟩
theorem ev_dig {l : List Nat} (h : Ev ta σ H (.str (S l))) : Ev (tM0 rDig ta) σ H (.bl (Txt.isdigit (S l))) := fun H1 e Q q => h H1 e _ fun H2 e2 => ⟨⟨S l, rfl⟩, S l, rfl, rfl, trivial, q H2 e2⟩
theorem ev_intS {l : List Nat} {n : Int} (h : Ev ta σ H (.str (S l))) (hn : PySem.intText? (S l) = some n) (hl : l.length ≤ 640) : Ev (tCB rIntS (tCons ta tNil)) σ H (.int n) := fun H1 e Q q => h H1 e _ fun H2 e2 => ⟨S l, n, rfl, hn, by rw [S_len]; exact hl, q H2 e2⟩
theorem eu_tupL (h : EvL ta σ H xs) : EvU (tCB (rTupS K) (tCons ta tNil)) σ H xs := fun H1 e Q q => h H1 e _ fun p H2 np e2 hp => ⟨p, xs, rfl, .inl ⟨sq_of hp, fun l hl => q _ _ (fresh_back e2 hl) (e2.trans (Ex.new hl)) upd_same⟩⟩
theorem el_listT (h : Ev ta σ H (.ref p)) (hp : H p = some (.tup xs)) : EvL (tCB (rListS K) (tCons ta tNil)) σ H xs := fun H1 e Q q => h H1 e _ fun H2 e2 => ⟨p, xs, rfl, .inr (st_of ((e.trans e2) _ _ hp)), fun l hl => q _ _ (fresh_back e2 hl) (e2.trans (Ex.new hl)) upd_same⟩
theorem el_listU (h : EvU ta σ H xs) : EvL (tCB (rListS K) (tCons ta tNil)) σ H xs := fun H1 e Q q => h H1 e _ fun p H2 np e2 hp => ⟨p, xs, rfl, .inr (st_of hp), fun l hl => q _ _ (fresh_back e2 hl) (e2.trans (Ex.new hl)) upd_same⟩
theorem el_cat (h1 : EvL ta σ H xs) (h2 : EvL tb σ H ys) (hz : xs.length + ys.length ≤ 100000) : EvL (tOp rCat ta tb) σ H (xs ++ ys) := fun H1 e Q q =>
  h1 H1 e _ fun p H2 np e2 hp => h2 H2 (e.trans e2) _ fun b H3 nb e3 hb => ⟨p, b, xs, ys, rfl, rfl, e3 _ _ hp, hb, sz_of hz, fun l hl => q _ _ (fresh_back (e2.trans e3) hl) ((e2.trans e3).trans (Ex.new hl)) upd_same⟩
theorem eu_cat (h1 : EvU ta σ H xs) (h2 : EvU tb σ H ys) (hz : xs.length + ys.length ≤ 100000) (n1 : xs ≠ []) (n2 : ys ≠ []) : EvU (tOp (rCatT K) ta tb) σ H (xs ++ ys) := fun H1 e Q q =>
  h1 H1 e _ fun p H2 np e2 hp => h2 H2 (e.trans e2) _ fun b H3 nb e3 hb => ⟨p, b, xs, ys, rfl, rfl, st_of (e3 _ _ hp), st_of hb, n1, sz_of hz, fun z => absurd z n2, fun _ l hl => q _ _ (fresh_back (e2.trans e3) hl) ((e2.trans e3).trans (Ex.new hl)) upd_same⟩
/-- part of a tuple, not all of it -/
theorem eu_sl {tl th : TO} {lo hi : Option Int} (h : Ev te σ H (.ref p)) (h1 : EvO tl σ H lo) (h2 : EvO th σ H hi) (hp : H p = some (.tup xs)) (hne : ¬ (HT.sIx xs.length 0 lo = 0 ∧ HT.sIx xs.length xs.length hi = xs.length)) : EvU (tSl (rSlT K) te tl th) σ H (cutV xs lo hi) := fun H0 e Q q =>
  h H0 e _ fun H2 e2 => h1 H2 (e.trans e2) _ fun H3 e3 => h2 H3 ((e.trans e2).trans e3) _ fun H4 e4 => ⟨p, xs, rfl, st_of ((((e.trans e2).trans e3).trans e4) _ _ hp), hne, fun l hl => q _ _ (fresh_back ((e2.trans e3).trans e4) hl) (((e2.trans e3).trans e4).trans (Ex.new hl)) upd_same⟩
theorem ev_lenT (ha : Ev ta σ H (.ref p)) (h : H p = some (.tup xs)) : Ev (tCB (rLenS K) (tCons ta tNil)) σ H (.int (xs.length : Int)) := fun H1 e Q q => ha H1 e _ fun H2 e2 => ⟨p, xs, rfl, .inr (st_of ((e.trans e2) _ _ h)), q H2 e2⟩
theorem ev_revL (ha : Ev ta σ H (.ref p)) (h : SqL K H p xs) : EvL (tRevL K ta) σ H xs.reverse := fun H1 e Q q => ha H1 e _ fun H2 e2 => ⟨p, xs, rfl, ex_l (e.trans e2) h, fun l hl => q _ _ (fresh_back e2 hl) (e2.trans (Ex.new hl)) upd_same⟩
theorem et_isi {b : Bool} (h : Ev ta σ H (.bl b)) : EvT (tB ta) σ H b := et_B h
/-- len(set(..)) of a new list of different texts -/
theorem ev_lenSetV {ls : List (List Nat)} (h : Ev ta σ H (.ref p)) (hp : SqL K H p (ls.map fun l => V.str (S l))) (nd : ls.Nodup) (hl : ls.length ≤ 4000) : Ev (tLenSetN K ta) σ H (.int (ls.length : Int)) := fun H1 e Q q =>
  h H1 e _ fun H2 e2 => ⟨p, ls.map S, rfl, by rw [List.map_map]; exact ex_l (e.trans e2) hp, List.pairwise_map.mpr (nd.imp fun h z => h (S_inj z)), by rw [List.length_map]; exact hl, by rw [List.length_map]; exact q H2 e2⟩
/-! texts that begin with a text -/
theorem starts_pre {l m : List Nat} (hm : m ≠ []) : Txt.startswith (S l) (S m) = TL.pre m l := by
  have h := TL.at_iff (x := S l) (y := S m) hm 0
  unfold Txt.startswith
  rw [Bool.eq_iff_iff, Bool.and_eq_true, decide_eq_true_eq]
  exact h
theorem ev_startsG {l m : List Nat} (ha : Ev ta σ H (.str (S l))) (hb : Ev tb σ H (.str (S m))) (hm : m ≠ []) : Ev (tM1 rStarts ta tb) σ H (.bl (TL.pre m l)) := fun H1 e Q q =>
  ha H1 e _ fun H2 e2 => ⟨⟨S l, rfl⟩, hb H2 (e.trans e2) _ fun H3 e3 => ⟨S l, S m, rfl, rfl, by rw [starts_pre hm]; exact q H3 (e2.trans e3)⟩⟩
end
end Kn
namespace Kn
open PySem PySem.Spec PyProof.Rows L2 Evl SX
section
variable {K : PySem.W.Frag} {σ : L2.St} {H H1 H' : Hp} {ta tb tc te tl tas : TE} {t : TT} {tA : TA} {a d C p : Addr} {v x : V} {D : Ends} {tu tw tz : TS} {xs ys : List V}
theorem str_nat (n : Nat) : (toString ((n : Nat) : Int) : Str) = S (TL.numL n) := TL.ext_tl (TL.tl_num n)
theorem ev_fmtN {n : Nat} (h : Ev te σ H (.int (n : Int))) (hn : n.log2 < 1920) : Ev (tFmt te) σ H (.str (S (TL.numL n))) := fun H1 e Q q => h H1 e _ fun H2 e2 => .inr ⟨(n : Int), rfl, by rw [Int.natAbs_natCast]; exact hn, by rw [str_nat]; exact q H2 e2⟩
theorem ev_fmtZ {i : Int} (h : Ev te σ H (.int i)) (hn : i.natAbs.log2 < 1920) : Ev (tFmt te) σ H (.str (S (toString i : Str).cps.toList)) := fun H1 e Q q => h H1 e _ fun H2 e2 => .inr ⟨i, rfl, hn, q H2 e2⟩
theorem ev_strN {n : Nat} (h : Ev ta σ H (.int (n : Int))) (hn : n.log2 < 1920) : Ev (tCB rStrInt (tCons ta tNil)) σ H (.str (S (TL.numL n))) := fun H1 e Q q => h H1 e _ fun H2 e2 => ⟨(n : Int), rfl, by rw [Int.natAbs_natCast]; exact hn, by rw [str_nat]; exact q H2 e2⟩
theorem el_lcT {a : Addr} {xs : List V} {tl : TE} {j : Nat} {vs : List Nat} (f : Nat → Bool) (v : Nat → V) (h : Ev tl σ H (.ref a)) (hx : H a = some (.tup xs)) (hz : xs.length ≤ 40000) (hw : ∀ x, wipe ((wipe σ vs).set j (some x)) vs = wipe σ vs)
    (ht : ∀ (i : Nat) (x : V) H1, Ex H H1 → xs[i]? = some x → EvT t ((wipe σ vs).set j (some x)) H1 (f i)) (he : ∀ (i : Nat) (x : V) H1, Ex H H1 → xs[i]? = some x → f i = true → Ev te ((wipe σ vs).set j (some x)) H1 (v i)) :
    EvL (tLc (iTup K tl) (gName j) t te vs) σ H (given xs.length f v) := fun H0 e Q q => h H0 e _ fun H1 e1 => ⟨a, rfl, ⟨xs, st_of ((e.trans e1) _ _ hx)⟩, fun Dl hD =>
  lc_it (walk_tup (xs := xs)) (Cw H1 f v Dl) ⟨hD, Ex.new hD, upd_same⟩ (fun i H' _ p => st_of (p.2.1 _ _ ((e.trans e1) _ _ hx))) (fun i x H2 H3 hi p y => by
    obtain ⟨rfl, hy⟩ := y
    exact ⟨hw x, cw_turn p (by omega) (ht i x H1 (e.trans e1) hy) (fun hf => he i x H1 (e.trans e1) hy hf)⟩)
    (fun H' p => q Dl H' (fresh_back e1 p.1) (e1.trans p.2.1) p.2.2)⟩
/-- over a tuple, each item mapped -/
theorem el_lcTM {τ : Type} {a : Addr} {ns : List τ} {g f : τ → V} {tl : TE} {j : Nat} {vs : List Nat} (h : Ev tl σ H (.ref a)) (hx : H a = some (.tup (ns.map g))) (hz : ns.length ≤ 40000) (hw : ∀ x, wipe ((wipe σ vs).set j (some x)) vs = wipe σ vs)
    (he : ∀ n ∈ ns, ∀ H1, Ex H H1 → Ev te ((wipe σ vs).set j (some (g n))) H1 (f n)) : EvL (tLc (iTup K tl) (gName j) tYes te vs) σ H (ns.map f) := by
  have z := el_lcT (K := K) (te := te) (t := tYes) (fun _ => true) (fun i => (ns[i]?.map f).getD .non) h hx (by rw [List.length_map]; exact hz) hw (fun _ _ _ _ _ => et_yes) (fun i x H1 e1 hi _ => by
    rw [List.getElem?_map] at hi
    obtain ⟨n, hn, rfl⟩ := Option.map_eq_some_iff.mp hi
    show Ev _ _ _ ((ns[i]?.map f).getD .non)
    rw [hn]
    exact he n (List.mem_of_getElem? hn) H1 e1)
  rw [List.length_map, given_all] at z
  exact z
/-- a new list of new tuples -/
def EvNs (te : TE) (σ : L2.St) (H : Hp) (ys : List (List V)) : Prop := ∀ H1, Ex H H1 → ∀ Q : VK, (∀ p (as : List Addr) H2, H1 p = none → Ex H1 H2 → H2 p = some (.lst (as.map V.ref)) → Paired (fun a y => H2 a = some (.tup y)) as ys → Q (.ref p) H2) → te σ H1 Q
def Cn (H : Hp) (g : Nat → List V) (Dl : Addr) (i : Nat) (H' : Hp) : Prop := H Dl = none ∧ Ex H H' ∧ ∃ as : List Addr, H' Dl = some (.lst (as.map V.ref)) ∧ Paired (fun a y => H' a = some (.tup y)) as ((List.range i).map g)
theorem pair_snoc {α β : Type} {F : α → β → Prop} {a : α} {b : β} (h : F a b) : ∀ {as : List α} {bs : List β}, Paired F as bs → Paired F (as ++ [a]) (bs ++ [b])
  | _, _, .nil => .cons h .nil
  | _, _, .cons x r => .cons x (pair_snoc h r)
theorem cn_turn {H H' : Hp} {g : Nat → List V} {Dl : Addr} {i : Nat} {σ2 : L2.St} (p : Cn H g Dl i H') (hi : i < 50000) (he : EvU te σ2 H (g i)) :
    tYes σ2 H' fun b H3 => if b = true then te σ2 H3 fun y H4 => ∃ acc, H4 Dl = some (.lst acc) ∧ acc.length < sizeLine ∧ Cn H g Dl (i + 1) (upd H4 Dl (.lst (acc ++ [y]))) else Cn H g Dl (i + 1) H3 := by
  obtain ⟨p1, p2, as, p3, p4⟩ := p
  show te σ2 H' _
  have hl : as.length = i := by rw [Paired.length p4, List.length_map, List.length_range]
  refine he H' p2 _ fun q H4 nq e4 hq => ⟨as.map V.ref, e4 Dl _ p3, sz_lt (by rw [List.length_map]; omega), p1, Ex.mut (p2.trans e4) p1, as ++ [q], by rw [List.map_append]; exact upd_same, ?_⟩
  rw [List.range_succ, List.map_append]
  refine pair_snoc ?_ (Paired.mapP p4 fun b y hb => ?_)
  · rw [upd_ne (ne_of hq (e4 _ _ p3) (by intro z; cases z))]
    exact hq
  · rw [upd_ne (ne_of (e4 _ _ hb) (e4 _ _ p3) (by intro z; cases z))]
    exact e4 _ _ hb
theorem ns_lcNL {xs : List V} {tl : TE} {j : Nat} {vs : List Nat} (g : Nat → List V) (h : EvL tl σ H xs) (hz : xs.length ≤ 40000) (hw : ∀ x, wipe ((wipe σ vs).set j (some x)) vs = wipe σ vs)
    (he : ∀ (i : Nat) (x : V) H1, Ex H H1 → xs[i]? = some x → EvU te ((wipe σ vs).set j (some x)) H1 (g i)) :
    EvNs (tLc (iList K tl) (gName j) tYes te vs) σ H ((List.range xs.length).map g) := fun H0 e Q q => h H0 e _ fun a H1 ha e1 hx => ⟨a, rfl, ⟨xs, sq_of hx⟩, fun Dl hD =>
  lc_list (xs := xs) (Cn H1 g Dl) ⟨hD, Ex.new hD, [], upd_same, .nil⟩ (fun i H' _ p => sq_of (p.2.1 a _ hx)) (fun i x H' hi p => ⟨hw x, cn_turn p (by have := (List.getElem?_eq_some_iff.mp hi).1; omega) (he i x H1 (e.trans e1) hi)⟩)
    (fun H' p => by
      obtain ⟨p1, p2, as, p3, p4⟩ := p
      exact q Dl as H' (fresh_back e1 p1) (e1.trans p2) p3 p4)⟩
/-- over a list that lies there -/
theorem ns_lcL {a : Addr} {xs : List V} {tl : TE} {j : Nat} {vs : List Nat} (g : Nat → List V) (h : Ev tl σ H (.ref a)) (hx : SqL K H a xs) (hz : xs.length ≤ 40000) (hw : ∀ x, wipe ((wipe σ vs).set j (some x)) vs = wipe σ vs)
    (he : ∀ (i : Nat) (x : V) H1, Ex H H1 → xs[i]? = some x → EvU te ((wipe σ vs).set j (some x)) H1 (g i)) :
    EvNs (tLc (iList K tl) (gName j) tYes te vs) σ H ((List.range xs.length).map g) := fun H0 e Q q => h H0 e _ fun H1 e1 => ⟨a, rfl, ⟨xs, ex_l (e.trans e1) hx⟩, fun Dl hD =>
  lc_list (xs := xs) (Cn H1 g Dl) ⟨hD, Ex.new hD, [], upd_same, .nil⟩ (fun i H' _ p => ex_l ((e.trans e1).trans p.2.1) hx) (fun i x H' hi p => ⟨hw x, cn_turn p (by have := (List.getElem?_eq_some_iff.mp hi).1; omega) (he i x H1 (e.trans e1) hi)⟩)
    (fun H' p => by
      obtain ⟨p1, p2, as, p3, p4⟩ := p
      exact q Dl as H' (fresh_back e1 p1) (e1.trans p2) p3 p4)⟩
theorem ns_lcR {n : Int} {j : Nat} {vs : List Nat} (g : Nat → List V) (h : EvA tA σ H [.int n]) (hn : 0 ≤ n ∧ n ≤ 40000) (hw : ∀ x, wipe ((wipe σ vs).set j (some x)) vs = wipe σ vs)
    (he : ∀ (i : Nat) H1, Ex H H1 → (i : Int) < n → EvU te ((wipe σ vs).set j (some (.int (i : Int)))) H1 (g i)) :
    EvNs (tLc (iRng1 tA) (gName j) tYes te vs) σ H ((List.range n.toNat).map g) := fun H0 e Q q => h H0 e _ fun H1 e1 => ⟨n, rfl, by omega, by omega, fun Dl hD =>
  lc_range (lo := 0) (n := n.toNat) (Cn H1 g Dl) ⟨hD, Ex.new hD, [], upd_same, .nil⟩ (fun i H' hi p => by
    have e0 : (0 : Int) + (i : Int) = (i : Int) := Int.zero_add _
    show wipe ((wipe σ vs).set j (some (.int ((0 : Int) + (i : Int))))) vs = wipe σ vs ∧ tYes ((wipe σ vs).set j (some (.int ((0 : Int) + (i : Int))))) H' fun b H3 => if b = true then te ((wipe σ vs).set j (some (.int ((0 : Int) + (i : Int))))) H3 fun y H4 => ∃ acc, H4 Dl = some (.lst acc) ∧ acc.length < sizeLine ∧ Cn H1 g Dl (i + 1) (upd H4 Dl (.lst (acc ++ [y]))) else Cn H1 g Dl (i + 1) H3
    rw [e0]
    exact ⟨hw _, cn_turn p (by omega) (he i H1 (e.trans e1) (by omega))⟩) (fun H' p => by
      obtain ⟨p1, p2, as, p3, p4⟩ := p
      exact q Dl as H' (fresh_back e1 p1) (e1.trans p2) p3 p4)⟩
/-- tuple(..) of such a list -/
def EvNt (te : TE) (σ : L2.St) (H : Hp) (ys : List (List V)) : Prop := ∀ H1, Ex H H1 → ∀ Q : VK, (∀ p (as : List Addr) H2, H1 p = none → Ex H1 H2 → H2 p = some (.tup (as.map V.ref)) → Paired (fun a y => H2 a = some (.tup y)) as ys → Q (.ref p) H2) → te σ H1 Q
theorem nt_tup {ys : List (List V)} (h : EvNs te σ H ys) : EvNt (tCB (rTupS K) (tCons te tNil)) σ H ys := fun H1 e Q q => h H1 e _ fun p as H2 np e2 hp hP =>
  ⟨p, as.map V.ref, rfl, .inl ⟨sq_of hp, fun l hl => q _ as _ (fresh_back e2 hl) (e2.trans (Ex.new hl)) upd_same (Paired.mapP hP fun b y hb => Ex.new hl _ _ hb)⟩⟩
theorem q_asgN {i : Nat} {ys : List (List V)} (h : EvNt te σ H ys) (k : ∀ p (as : List Addr) H1, H p = none → Ex H H1 → H1 p = some (.tup (as.map V.ref)) → Paired (fun a y => H1 a = some (.tup y)) as ys → tz D (σ.set i (some (.ref p))) H1) : tSeq (tAsg te (gName i)) tz D σ H := h H (Ex.refl H) _ fun p as H1 hp e h1 h2 => k p as H1 hp e h1 h2
/-- for i, x in enumerate(xs) -/
theorem q_forEn {a : Addr} {xs : List V} {tl : TE} {i j : Nat} (h : Ev tl σ H (.ref a)) (hx : SqL K H a xs) (Pv : Nat → L2.St → Hp → Prop) (h0 : ∀ H1, Ex H H1 → Pv 0 σ H1) (hl : ∀ n σ' H', n ≤ xs.length → Pv n σ' H' → SqL K H' a xs)
    (hs : ∀ n x σ' H' H2, xs[n]? = some x → Pv n σ' H' → Ex H' H2 → tu { D with nx := Pv (n + 1), ct := Pv (n + 1), bk := tz D } ((σ'.set i (some (.int (n : Int)))).set j (some x)) H2) (hd : ∀ σ' H', Pv xs.length σ' H' → tz D σ' H') :
    tSeq (tFor (iEnum K (tCons tl tNil)) (gTup K 2 (gCons (gName i) (gCons (gName j) gNil))) tu) tz D σ H :=
  h H (Ex.refl H) _ fun H1 e => ⟨a, xs, rfl, ex_l e hx, for_it (D := { D with nx := tz D }) walk_enum Pv (h0 H1 e) hl (fun n v σ' H2 H3 hn p y => by
    obtain ⟨T, u, w, rfl, nT, rfl, hu, hw⟩ := y
    cases hu
    exact unp2 upd_same (hs n w σ' H2 _ hw p (Ex.new nT))) hd⟩
end
end Kn
/-! ### errors with a number -/
namespace Kn
open PySem PySem.Spec PyProof.Rows L2 Evl SX
section
variable {K : PySem.W.Frag} {σ : L2.St} {H H1 H' : Hp} {te : TE} {C a : Addr} {f : Str} {i : Int}
def SmI (i : Int) : Prop := i.natAbs.log2 < 1920 ∧ (toString i : Str).cps.toList.length ≤ 1000
theorem small_I : ∀ i : Nat, i < 1100 → SmI ((i : Int) - 50) := by unfold SmI; decide +kernel
theorem sm_I {i : Int} (h : -50 ≤ i) (h2 : i < 1050) : SmI i := by
  have z := small_I (i + 50).toNat (by omega)
  rw [show (((i + 50).toNat : Nat) : Int) - 50 = i by omega] at z
  exact z
def sp_I1z (f : Str) (K : PySem.W.Frag) : Sp := fun vs H Q _ => ∃ (a C : Addr) (i : Int), vs = [.ref a, .int i] ∧ SmI i ∧ H a = some (exo a C none) ∧ OexC K C ∧ PySem.W.findIn K (.ref C) f = some none ∧
  ∀ dx H', H dx = none → dx ≠ a → XMade H H' a C dx [(f, .int i)] → Q .non H'
theorem raise1z {W : WX} (oe : OexC K C) (nf : PySem.W.findIn K (.ref C) f = some none) (hi : SmI i) (hv : Ev te σ H (.int i))
    (hk : ∀ d H', Ex H H' → H' d = some (.xd [(f, .int i)]) → W (.ref C) (some d) σ H') : tMkO C (sp_I1z f K) [] (tCons te tNil) σ H (fun cls d H' => W cls d σ H') :=
  hv H (Ex.refl H) _ fun H2 e2 => ⟨(by show 1 ≤ 1000; decide), fun a na => ⟨a, C, i, rfl, hi, upd_same, oe, nf, fun dx H' hdx ne m =>
    ⟨rfl, dx, _, m.1, m.2.1, upd_none hdx, xm_raise e2 na (upd_none hdx) m hk⟩⟩⟩
end
end Kn

/-! ### keys of texts -/
namespace Kn.Rp
open PySem PySem.Spec PyProof.Rows L2 Evl SX Kn
def key (l : List Nat) : Nat := l.foldl (fun a c => a * 128 + c) 1
theorem key_snoc (l : List Nat) (c : Nat) : key (l ++ [c]) = key l * 128 + c := by
  unfold key
  rw [List.foldl_append]
  rfl
theorem key_pos (l : List Nat) : 1 ≤ key l := by
  have h : ∀ (l : List Nat) (a : Nat), 1 ≤ a → 1 ≤ l.foldl (fun a c => a * 128 + c) a := fun l => by
    induction l with
    | nil => exact fun a h => h
    | cons c r ih => exact fun a h => ih (a * 128 + c) (by omega)
  exact h l 1 (Nat.le_refl 1)
theorem key_inj_rev : ∀ (a b : List Nat), (∀ c ∈ a, c < 128) → (∀ c ∈ b, c < 128) → key a.reverse = key b.reverse → a = b
  | [], [], _, _, _ => rfl
  | [], d :: r, _, _, h => by
    rw [List.reverse_cons, key_snoc] at h
    have := key_pos r.reverse
    have e : key ([] : List Nat).reverse = 1 := rfl
    omega
  | c :: r, [], _, _, h => by
    rw [List.reverse_cons, key_snoc] at h
    have := key_pos r.reverse
    have e : key ([] : List Nat).reverse = 1 := rfl
    omega
  | c :: r, d :: t, h1, h2, h => by
    rw [List.reverse_cons, List.reverse_cons, key_snoc, key_snoc] at h
    have hc := h1 c List.mem_cons_self
    have hd := h2 d List.mem_cons_self
    have e1 : c = d := by omega
    have e2 : key r.reverse = key t.reverse := by omega
    rw [e1, key_inj_rev r t (fun x hx => h1 x (List.mem_cons_of_mem _ hx)) (fun x hx => h2 x (List.mem_cons_of_mem _ hx)) e2]
theorem key_inj {a b : List Nat} (h1 : ∀ c ∈ a, c < 128) (h2 : ∀ c ∈ b, c < 128) (h : key a = key b) : a = b := by
  have z := key_inj_rev a.reverse b.reverse (fun c hc => h1 c (List.mem_reverse.mp hc)) (fun c hc => h2 c (List.mem_reverse.mp hc)) (by rw [List.reverse_reverse, List.reverse_reverse]; exact h)
  exact List.reverse_inj.mp z
theorem key_lt : ∀ (l : List Nat) (a : Nat), (∀ c ∈ l, c < 128) → l.foldl (fun a c => a * 128 + c) a < (a + 1) * 128 ^ l.length
  | [], a, _ => by
    show a < (a + 1) * 128 ^ 0
    omega
  | c :: r, a, h => by
    have hc := h c List.mem_cons_self
    have ih := key_lt r (a * 128 + c) fun x hx => h x (List.mem_cons_of_mem _ hx)
    rw [List.foldl_cons, List.length_cons, Nat.pow_succ]
    refine Nat.lt_of_lt_of_le ih ?_
    have e : (a + 1) * (128 ^ r.length * 128) = (a + 1) * 128 * 128 ^ r.length := by
      rw [Nat.mul_comm (128 ^ r.length) 128, Nat.mul_assoc]
    rw [e]
    exact Nat.mul_le_mul_right _ (by omega)
theorem key_log {l : List Nat} (h : ∀ c ∈ l, c < 128) (hl : l.length ≤ 200) : (key l).log2 < 1920 := by
  have h0 := key_pos l
  refine (Nat.log2_lt (by omega)).mpr (Nat.lt_of_lt_of_le (key_lt l 1 h) ?_)
  have e : 128 ^ l.length ≤ 128 ^ 200 := Nat.pow_le_pow_right (by decide) hl
  refine Nat.le_trans (Nat.mul_le_mul_left _ e) (by decide +kernel)
theorem hv_bit : ∀ d, d < 2 → L2.Hx.hv (48 + d) = d := by decide
theorem fold_pad (a d : Nat) (h : d < 128) : (Bi.pad7 d).foldl (fun a c => a * 2 + L2.Hx.hv c) a = a * 128 + d := by
  unfold Bi.pad7
  simp only [List.foldl_cons, List.foldl_nil]
  rw [hv_bit _ (Nat.mod_lt _ (by decide)), hv_bit _ (Nat.mod_lt _ (by decide)), hv_bit _ (Nat.mod_lt _ (by decide)), hv_bit _ (Nat.mod_lt _ (by decide)), hv_bit _ (Nat.mod_lt _ (by decide)), hv_bit _ (Nat.mod_lt _ (by decide)), hv_bit _ (Nat.mod_lt _ (by decide))]
  omega
theorem fold_pads : ∀ (l : List Nat) (a : Nat), (∀ c ∈ l, c < 128) → ((l.map Bi.pad7).flatten).foldl (fun a c => a * 2 + L2.Hx.hv c) a = l.foldl (fun a c => a * 128 + c) a
  | [], a, _ => rfl
  | c :: l, a, h => by
    rw [List.map_cons, List.flatten_cons, List.foldl_append, fold_pad a c (h c List.mem_cons_self), fold_pads l _ fun d hd => h d (List.mem_cons_of_mem _ hd)]
    rfl
theorem bin_key {l : List Nat} (h : ∀ c ∈ l, c < 128) : Bi.binNum ([49] ++ (l.map Bi.pad7).flatten) = key l := by
  unfold Bi.binNum key
  rw [List.foldl_append, ← fold_pads l 1 h]
  rfl
theorem isbin_pad (d : Nat) : ∀ c ∈ Bi.pad7 d, Bi.IsBin c := fun c hc => by
  unfold Bi.pad7 at hc
  simp only [List.mem_cons, List.not_mem_nil, or_false] at hc
  unfold Bi.IsBin
  omega
theorem bin_all (l : List Nat) : ∀ c ∈ [49] ++ (l.map Bi.pad7).flatten, Bi.IsBin c := fun c hc => by
  rcases List.mem_append.mp hc with h | h
  · rw [List.mem_singleton.mp h]
    exact .inr rfl
  · obtain ⟨x, hx, hc2⟩ := List.mem_flatten.mp h
    obtain ⟨d, _, rfl⟩ := List.mem_map.mp hx
    exact isbin_pad d c hc2
theorem flat_len : ∀ r : List Nat, ((r.map Bi.pad7).flatten).length = 7 * r.length
  | [] => rfl
  | d :: r => by
    rw [List.map_cons, List.flatten_cons, List.length_append, flat_len r, List.length_cons]
    show 7 + _ = _
    omega
theorem ev_fmt7 {σ : L2.St} {H : Hp} {te : TE} {d : Nat} (h : Ev te σ H (.int (d : Int))) (hd : d < 128) : Ev (Bi.tFmt7 te) σ H (.str (S (Bi.pad7 d))) := fun H1 e Q q =>
  h H1 e _ fun H2 e2 => ⟨d, rfl, hd, q H2 e2⟩
theorem ev_intBinL {σ : L2.St} {H : Hp} {ta tb : TE} {l : List Nat} (h : EvA (tCons ta (tCons tb tNil)) σ H [.str (S l), .int 2]) (hne : l ≠ []) (hb : ∀ c ∈ l, Bi.IsBin c) : Ev (tCB Bi.rIntBinL (tCons ta (tCons tb tNil))) σ H (.int ((Bi.binNum l : Nat) : Int)) := fun H1 e Q q =>
  h H1 e _ fun H2 e2 => ⟨l, rfl, hne, hb, q H2 e2⟩
end Kn.Rp
/-! ### records: what is written, and what is read -/
namespace Kn.Rp
open PySem PySem.Spec PyProof.Rows L2 Evl SX Kn
inductive Sn where
  | no
  | b (x : Bool)
  | k (n : Nat)
structure Nd where
  ws : List (List Nat)
  sn : Sn
structure Rc where
  outs : List (List Nat)
  key : Nat
  needs : List Nd
  res : List Nat
def snD : Sn → V
  | .no => .non
  | .b x => .bl x
  | .k n => .int (n : Int)
def strsV (ls : List (List Nat)) : List V := ls.map fun l => V.str (S l)
def ndD (d : Nd) : List V := strsV d.ws ++ [snD d.sn]
def yesL : List Nat := [121, 101, 115]
def nooL : List Nat := [110, 111]
def fmtSn : Sn → List Nat
  | .no => [45]
  | .b x => if x = true then yesL else nooL
  | .k n => TL.numL n
def fmtNd (d : Nd) : List Nat := TL.joinL [58] (d.ws ++ [fmtSn d.sn])
def fmtNds (l : List Nd) : List Nat := if l.length = 0 then [45] else TL.joinL [59] (l.map fmtNd)
def words (r : Rc) : List (List Nat) := [TL.joinL [44] r.outs, TL.numL r.key, fmtNds r.needs, TL.joinL [44] (r.res.map TL.numL)]
def fmtRc (r : Rc) : List Nat := TL.joinL [32] (words r)
/-- a record that lies in the heap -/
def fldR (o : Addr) (k : Nat) (t q : Addr) : List (Str × V) := putF "results" (.ref q) (putF "needs" (.ref t) (putF "rule_key" (.int (k : Int)) (putF "outputs" (.ref o) [])))
structure RcO (C : Addr) (H : Hp) (p : Addr) (r : Rc) : Prop where
  ex : ∃ (dx o t q : Addr) (as : List Addr), H p = some (.ins C dx (fldR o r.key t q)) ∧ H o = some (.tup (strsV r.outs)) ∧ H t = some (.tup (as.map V.ref)) ∧ Paired (fun a y => H a = some (.tup y)) as (r.needs.map ndD) ∧ H q = some (.tup (r.res.map fun n : Nat => V.int (n : Int)))
theorem RcO.mono {C : Addr} {H H1 : Hp} {p : Addr} {r : Rc} (h : RcO C H p r) (e : Ex H H1) : RcO C H1 p r := by
  obtain ⟨dx, o, t, q, as, h1, h2, h3, h4, h5⟩ := h.ex
  exact ⟨dx, o, t, q, as, e _ _ h1, e _ _ h2, e _ _ h3, Paired.mapP h4 fun _ _ z => e _ _ z, e _ _ h5⟩
theorem fr_o (o : Addr) (k : Nat) (t q : Addr) : (fldR o k t q).lookup ("outputs" : Str) = some (.ref o) := by rfl
theorem fr_k (o : Addr) (k : Nat) (t q : Addr) : (fldR o k t q).lookup ("rule_key" : Str) = some (.int (k : Int)) := by rfl
theorem fr_n (o : Addr) (k : Nat) (t q : Addr) : (fldR o k t q).lookup ("needs" : Str) = some (.ref t) := by rfl
theorem fr_r (o : Addr) (k : Nat) (t q : Addr) : (fldR o k t q).lookup ("results" : Str) = some (.ref q) := by rfl
/-- what reading a line comes to -/
def isNum (l : List Nat) : Bool := decide ((l.length : Int) ≤ 4000) && (Txt.isascii (S l) && (Txt.isdigit (S l) && !decide (l[0]? = some 48)))
def numOrNot (l : List Nat) : Bool := decide (l = [45]) || isNum l
def NS : List Nat := (Str.ofString "abcdefghijklmnopqrstuvwxyz0123456789_.").cps.toList
def IS : List Nat := (Str.ofString "abcdefghijklmnopqrstuvwxyz0123456789_").cps.toList
def LS : List Nat := (Str.ofString "abcdefghijklmnopqrstuvwxyz").cps.toList
def nameOk (G n : List Nat) : Bool := !(!(decide (1 ≤ (n.length : Int)) && decide ((n.length : Int) ≤ 12)) || decide (n[0]? = some 46)) && n.all fun c => decide (c ∈ G)
def pathOk (l : List Nat) : Bool := decide (((cut1 47 l).length : Int) ≤ 4) && (cut1 47 l).all (nameOk NS)
def patOk (l : List Nat) : Bool := decide (cnt 42 l = 1) && pathOk (l.map fun e => if e = 42 then 97 else e)
def npOk (l : List Nat) : Bool := !decide (47 ∈ l) && patOk l
def idOk (l : List Nat) : Bool := !(!(decide (1 ≤ (l.length : Int)) && decide ((l.length : Int) ≤ 12)) || !decide (l.getD 0 0 ∈ LS)) && l.all fun c => decide (c ∈ IS)
def folderOk (l : List Nat) : Bool := decide (l = []) || pathOk l
def fileL : List Nat := (Str.ofString "file").cps.toList
def hasL : List Nat := (Str.ofString "has").cps.toList
def lstL : List Nat := (Str.ofString "listing").cps.toList
def setL : List Nat := (Str.ofString "setting").cps.toList
def lnkL : List Nat := (Str.ofString "link").cps.toList
def needK (kind x y seen : List Nat) (n : Nat) : Bool :=
  if kind = lstL then decide (n = 4) && (folderOk x && (npOk y && isNum seen))
  else if n ≠ 3 then false
  else if kind = setL then idOk x && numOrNot seen
  else if kind = hasL then pathOk x && (decide (seen = yesL) || decide (seen = nooL))
  else (decide (kind = fileL) || decide (kind = lnkL)) && (pathOk x && numOrNot seen)
def needI (it : List (List Nat)) : Bool := needK (it.getD 0 []) (it.getD 1 []) (it.getD 2 []) (it.getD (it.length - 1) []) it.length
def needOk (w : List Nat) : Bool := needI (cut1 58 w)
def quest (w : List Nat) : Str := (Txt.rpartition (S w) (S [58])).1
def outsOk (ws : List (List Nat)) : Bool := decide (ws.length ≤ 3) && ws.all pathOk
def needsOk (ws : List (List Nat)) : Bool := decide (ws.length ≤ 60) && ws.all needOk
def readSn (w : List Nat) : Sn := if w = [45] then .no else if w = yesL then .b true else if w = nooL then .b false else .k (NumText.digitsVal w)
def readNd (w : List Nat) : Nd := ⟨(cut1 58 w).dropLast, readSn ((cut1 58 w).getLastD [])⟩
end Kn.Rp
/-! ### what is written is read back -/
namespace Kn.Rp
open PySem PySem.Spec PyProof.Rows L2 Evl SX Kn
theorem cut_join {c : Nat} {ps : List (List Nat)} (h : ps ≠ []) (h2 : ∀ p ∈ ps, c ∉ p) : cut1 c (TL.joinL [c] ps) = ps := TL.spl_join h h2
theorem dig_small : ∀ c, c < 128 → (Unicode.isDigit c = true ↔ (48 ≤ c ∧ c ≤ 57)) := by decide +kernel
theorem num_digits {l : List Nat} (h : NumText.AllDigits l) (hne : l ≠ []) : Txt.isascii (S l) = true ∧ Txt.isdigit (S l) = true := by
  have e1 : Txt.isascii (S l) = l.all (fun c => decide (c < 128)) := by
    unfold Txt.isascii
    show (l.toArray).all _ = _
    simp
  have e2 : Txt.isdigit (S l) = (decide (l.length > 0) && l.all Unicode.isDigit) := by
    unfold Txt.isdigit
    rw [S_len]
    show (decide (l.length > 0) && (l.toArray).all _) = _
    simp
  refine ⟨?_, ?_⟩
  · rw [e1, List.all_eq_true]
    intro c hc
    have := h c hc
    exact decide_eq_true (by omega)
  · rw [e2, Bool.and_eq_true, decide_eq_true_eq, List.all_eq_true]
    refine ⟨List.length_pos_iff.mpr hne, fun c hc => ?_⟩
    have := h c hc
    exact (dig_small c (by omega)).mpr this
theorem isnum_digits {l : List Nat} (h : isNum l = true) : NumText.AllDigits l ∧ l ≠ [] := by
  unfold isNum at h
  rw [Bool.and_eq_true, Bool.and_eq_true, Bool.and_eq_true] at h
  obtain ⟨_, h1, h2, _⟩ := h
  have e1 : Txt.isascii (S l) = l.all (fun c => decide (c < 128)) := by
    unfold Txt.isascii
    show (l.toArray).all _ = _
    simp
  have e2 : Txt.isdigit (S l) = (decide (l.length > 0) && l.all Unicode.isDigit) := by
    unfold Txt.isdigit
    rw [S_len]
    show (decide (l.length > 0) && (l.toArray).all _) = _
    simp
  rw [e1, List.all_eq_true] at h1
  rw [e2, Bool.and_eq_true, decide_eq_true_eq, List.all_eq_true] at h2
  exact ⟨fun c hc => (dig_small c (of_decide_eq_true (h1 c hc))).mp (h2.2 c hc), List.length_pos_iff.mp h2.1⟩
theorem num_head : ∀ (k n : Nat), n < 10 ^ k → 0 < n → ∃ c r, TL.numL n = c :: r ∧ c ≠ 48
  | 0, n, h, h0 => absurd h (by rw [Nat.pow_zero]; omega)
  | k + 1, n, h, h0 => by
    by_cases h10 : n < 10
    · exact ⟨_, _, TL.numL_lt h10, by omega⟩
    · obtain ⟨c, r, e, hc⟩ := num_head k (n / 10) (by rw [Nat.pow_succ] at h; omega) (by omega)
      exact ⟨c, r ++ [48 + n % 10], by rw [TL.numL_step (by omega), e]; rfl, hc⟩
def GK (n : Nat) : Prop := 0 < n ∧ n < 2 ^ 1900
theorem GK.ten {n : Nat} (h : GK n) : n < 10 ^ 600 := Nat.lt_trans h.2 (by decide +kernel)
theorem GK.len {n : Nat} (h : GK n) : (TL.numL n).length ≤ 600 := TL.numL_len (by decide) h.ten
theorem GK.log {n : Nat} (h : GK n) : n.log2 < 1920 := by
  have := h.1
  have := (Nat.log2_lt (by omega)).mpr h.2
  omega
theorem GK.num {n : Nat} (h : GK n) : isNum (TL.numL n) = true := by
  obtain ⟨c, r, e, hc⟩ := num_head 600 n h.ten h.1
  have hd := num_digits (TL.numL_digits n) (TL.numL_ne n)
  have hl := h.len
  unfold isNum
  rw [hd.1, hd.2, decide_eq_true (by omega), e]
  simp [hc]
theorem intS {l : List Nat} (h : NumText.AllDigits l) (hne : l ≠ []) (hl : l.length ≤ 640) : PySem.intText? (S l) = some ((NumText.digitsVal l : Nat) : Int) :=
  PySem.intText_digits (x := S l) h hne (by rw [S_len]; omega)
def GSn : Sn → Prop
  | .no => True
  | .b _ => True
  | .k n => GK n
theorem sn_free {s : Sn} (h : GSn s) {c : Nat} (hc : c = 58 ∨ c = 59 ∨ c = 32 ∨ c = 44) : c ∉ fmtSn s := by
  cases s with
  | no => rcases hc with rfl | rfl | rfl | rfl <;> decide
  | b x => cases x <;> rcases hc with rfl | rfl | rfl | rfl <;> decide
  | k n => exact TL.numL_free (by omega)
theorem num_not {n : Nat} {l : List Nat} (h : ∃ c ∈ l, c < 48 ∨ 57 < c) : TL.numL n ≠ l := fun e => by
  obtain ⟨c, hc, hh⟩ := h
  rw [← e] at hc
  exact TL.numL_free hh hc
theorem sn_read {s : Sn} (h : GSn s) : readSn (fmtSn s) = s := by
  cases s with
  | no => rfl
  | b x => cases x <;> rfl
  | k n =>
    show readSn (TL.numL n) = _
    unfold readSn
    rw [if_neg (num_not ⟨45, by decide, by decide⟩), if_neg (num_not ⟨121, by decide, by decide⟩), if_neg (num_not ⟨110, by decide, by decide⟩), TL.numL_val]
theorem sn_kn {s : Sn} (h : GSn s) (hb : ∀ b, s ≠ .b b) : numOrNot (fmtSn s) = true := by
  unfold numOrNot
  cases s with
  | no => rfl
  | b x => exact absurd rfl (hb x)
  | k n =>
    show (_ || isNum (TL.numL n)) = true
    rw [GK.num h, Bool.or_true]
/-- a word of a need: without the signs that part needs -/
def WOk (w : List Nat) : Prop := 58 ∉ w ∧ 59 ∉ w ∧ 32 ∉ w ∧ 44 ∉ w
inductive GNd : Nd → Prop
  | file {p : List Nat} {s : Sn} : pathOk p = true → WOk p → GSn s → (∀ b, s ≠ .b b) → GNd ⟨[fileL, p], s⟩
  | has {p : List Nat} {b : Bool} : pathOk p = true → WOk p → GNd ⟨[hasL, p], .b b⟩
  | lst {f p : List Nat} {n : Nat} : folderOk f = true → npOk p = true → WOk f → WOk p → GK n → GNd ⟨[lstL, f, p], .k n⟩
  | set {p : List Nat} {s : Sn} : idOk p = true → WOk p → GSn s → (∀ b, s ≠ .b b) → GNd ⟨[setL, p], s⟩
  | lnk {p : List Nat} {s : Sn} : pathOk p = true → WOk p → GSn s → (∀ b, s ≠ .b b) → GNd ⟨[lnkL, p], s⟩
theorem kinds_ok : WOk fileL ∧ WOk hasL ∧ WOk lstL ∧ WOk setL ∧ WOk lnkL := by unfold WOk; decide +kernel
theorem GNd.sn {d : Nd} (h : GNd d) : GSn d.sn := by
  cases h <;> first | assumption | exact trivial
theorem GNd.ws {d : Nd} (h : GNd d) : d.ws ≠ [] ∧ ∀ w ∈ d.ws, WOk w := by
  obtain ⟨k1, k2, k3, k4, k5⟩ := kinds_ok
  cases h with
  | file h1 h2 h3 h4 => exact ⟨by simp, fun w hw => by rcases List.mem_cons.mp hw with rfl | hw; exact k1; rcases List.mem_cons.mp hw with rfl | hw; exact h2; cases hw⟩
  | has h1 h2 => exact ⟨by simp, fun w hw => by rcases List.mem_cons.mp hw with rfl | hw; exact k2; rcases List.mem_cons.mp hw with rfl | hw; exact h2; cases hw⟩
  | lst h1 h2 h3 h4 h5 => exact ⟨by simp, fun w hw => by rcases List.mem_cons.mp hw with rfl | hw; exact k3; rcases List.mem_cons.mp hw with rfl | hw; exact h3; rcases List.mem_cons.mp hw with rfl | hw; exact h4; cases hw⟩
  | set h1 h2 h3 h4 => exact ⟨by simp, fun w hw => by rcases List.mem_cons.mp hw with rfl | hw; exact k4; rcases List.mem_cons.mp hw with rfl | hw; exact h2; cases hw⟩
  | lnk h1 h2 h3 h4 => exact ⟨by simp, fun w hw => by rcases List.mem_cons.mp hw with rfl | hw; exact k5; rcases List.mem_cons.mp hw with rfl | hw; exact h2; cases hw⟩
theorem GNd.items {d : Nd} (h : GNd d) {w : List Nat} (hw : w ∈ d.ws ++ [fmtSn d.sn]) {c : Nat} (hc : c = 58 ∨ c = 59 ∨ c = 32 ∨ c = 44) : c ∉ w := by
  rcases List.mem_append.mp hw with z | z
  · obtain ⟨h1, h2, h3, h4⟩ := h.ws.2 w z
    rcases hc with rfl | rfl | rfl | rfl
    · exact h1
    · exact h2
    · exact h3
    · exact h4
  · rw [List.mem_singleton.mp z]
    exact sn_free h.sn hc
theorem join_free {s c : Nat} (hs : s ≠ c) : ∀ {ps : List (List Nat)}, (∀ p ∈ ps, c ∉ p) → c ∉ TL.joinL [s] ps
  | [], _ => by simp [TL.joinL]
  | [p], h => by
    show c ∉ p
    exact h p List.mem_cons_self
  | p :: q :: r, h => by
    show c ∉ p ++ ([s] ++ TL.joinL [s] (q :: r))
    simp only [List.mem_append, List.mem_singleton, not_or]
    exact ⟨h p List.mem_cons_self, fun z => hs z.symm, join_free hs fun x hx => h x (List.mem_cons_of_mem _ hx)⟩
theorem GNd.free {d : Nd} (h : GNd d) {c : Nat} (hc : c = 59 ∨ c = 32 ∨ c = 44) : c ∉ fmtNd d := join_free (by omega) fun p hp => h.items hp (by omega)
theorem GNd.cut {d : Nd} (h : GNd d) : cut1 58 (fmtNd d) = d.ws ++ [fmtSn d.sn] := cut_join (by simp) fun p hp => h.items hp (.inl rfl)
theorem GNd.read {d : Nd} (h : GNd d) : readNd (fmtNd d) = d := by
  unfold readNd
  rw [h.cut, List.dropLast_concat]
  have e : (d.ws ++ [fmtSn d.sn]).getLastD [] = fmtSn d.sn := by simp
  rw [e, sn_read h.sn]
theorem GNd.need {d : Nd} (h : GNd d) : needOk (fmtNd d) = true := by
  unfold needOk
  rw [h.cut]
  cases h with
  | @file p s h1 h2 h3 h4 =>
    show needK fileL p (fmtSn s) (fmtSn s) 3 = true
    unfold needK
    rw [if_neg (by decide +kernel), if_neg (by simp), if_neg (by decide +kernel), if_neg (by decide +kernel)]
    show ((decide (fileL = fileL) || _) && (pathOk p && numOrNot (fmtSn s))) = true
    rw [decide_eq_true rfl, h1, sn_kn h3 h4]
    rfl
  | @has p b h1 h2 =>
    show needK hasL p (fmtSn (.b b)) (fmtSn (.b b)) 3 = true
    unfold needK
    rw [if_neg (by decide +kernel), if_neg (by simp), if_neg (by decide +kernel), if_pos rfl]
    show (pathOk p && (decide (fmtSn (.b b) = yesL) || decide (fmtSn (.b b) = nooL))) = true
    rw [h1]
    cases b <;> rfl
  | @lst f p n h1 h2 h3 h4 h5 =>
    show needK lstL f p (TL.numL n) 4 = true
    unfold needK
    rw [if_pos rfl]
    show (decide (4 = 4) && (folderOk f && (npOk p && isNum (TL.numL n)))) = true
    rw [h1, h2, GK.num h5]
    rfl
  | @set p s h1 h2 h3 h4 =>
    show needK setL p (fmtSn s) (fmtSn s) 3 = true
    unfold needK
    rw [if_neg (by decide +kernel), if_neg (by simp), if_pos rfl]
    show (idOk p && numOrNot (fmtSn s)) = true
    rw [h1, sn_kn h3 h4]
    rfl
  | @lnk p s h1 h2 h3 h4 =>
    show needK lnkL p (fmtSn s) (fmtSn s) 3 = true
    unfold needK
    rw [if_neg (by decide +kernel), if_neg (by simp), if_neg (by decide +kernel), if_neg (by decide +kernel)]
    show ((decide (lnkL = fileL) || decide (lnkL = lnkL)) && (pathOk p && numOrNot (fmtSn s))) = true
    rw [decide_eq_true (rfl : lnkL = lnkL), h1, sn_kn h3 h4, Bool.or_true]
    rfl
def questL (w : List Nat) : List Nat := TL.tl (Txt.rpartition (S w) (S [58])).1
theorem questS (w : List Nat) : (Txt.rpartition (S w) (S [58])).1 = S (questL w) := (S_tl _).symm
theorem GNd.quest {d : Nd} (h : GNd d) : questL (fmtNd d) = TL.joinL [58] d.ws := by
  have e : fmtNd d = TL.joinL [58] d.ws ++ 58 :: fmtSn d.sn := by
    unfold fmtNd
    rw [joinL_snoc _ _ h.ws.1]
    rfl
  unfold questL
  rw [e, rpart_some (sn_free h.sn (.inl rfl))]
structure GRc (r : Rc) : Prop where
  o1 : r.outs ≠ []
  o3 : r.outs.length ≤ 3
  on : r.outs.Nodup
  op : ∀ o ∈ r.outs, pathOk o = true ∧ 44 ∉ o ∧ 32 ∉ o
  kk : GK r.key
  n60 : r.needs.length ≤ 60
  nn : (r.needs.map fun d => TL.joinL [58] d.ws).Nodup
  nd : ∀ d ∈ r.needs, GNd d
  rl : r.res.length = r.outs.length
  rk : ∀ n ∈ r.res, GK n
theorem GRc.words {r : Rc} (g : GRc r) : cut1 32 (fmtRc r) = Kn.Rp.words r := by
  refine cut_join (by simp [Kn.Rp.words]) fun p hp => ?_
  have hn : ∀ n, 32 ∉ TL.numL n := fun n => TL.numL_free (by omega)
  simp only [Kn.Rp.words, List.mem_cons, List.not_mem_nil, or_false] at hp
  rcases hp with rfl | rfl | rfl | rfl
  · exact join_free (by decide) fun o ho => (g.op o ho).2.2
  · exact hn _
  · unfold fmtNds
    split
    · decide
    · refine join_free (by decide) fun p hp => ?_
      obtain ⟨d, hd, rfl⟩ := List.mem_map.mp hp
      exact (g.nd d hd).free (.inr (.inl rfl))
  · refine join_free (by decide) fun p hp => ?_
    obtain ⟨n, _, rfl⟩ := List.mem_map.mp hp
    exact hn n
theorem GRc.outs {r : Rc} (g : GRc r) : cut1 44 (TL.joinL [44] r.outs) = r.outs := cut_join g.o1 fun o ho => (g.op o ho).2.1
theorem GRc.res {r : Rc} (g : GRc r) : cut1 44 (TL.joinL [44] (r.res.map TL.numL)) = r.res.map TL.numL := by
  refine cut_join ?_ fun p hp => ?_
  · intro z
    have h1 := congrArg List.length z
    rw [List.length_map, g.rl] at h1
    exact g.o1 (List.length_eq_zero_iff.mp h1)
  · obtain ⟨n, _, rfl⟩ := List.mem_map.mp hp
    exact TL.numL_free (by omega)
/-- the words of the needs -/
def needW (w : List Nat) : List (List Nat) := if w = [45] then [] else cut1 59 w
theorem nd_not {d : Nd} (h : GNd d) : fmtNd d ≠ [45] := fun e => by
  have h1 := h.cut
  rw [e] at h1
  have h2 : cut1 58 [45] = [[45]] := by decide +kernel
  rw [h2] at h1
  have hl := congrArg List.length h1
  rw [List.length_append] at hl
  have h3 := List.length_pos_iff.mpr h.ws.1
  have hl2 : 1 = d.ws.length + 1 := hl
  omega
theorem GRc.needs {r : Rc} (g : GRc r) : needW (fmtNds r.needs) = r.needs.map fmtNd := by
  unfold needW fmtNds
  by_cases h0 : r.needs.length = 0
  · rw [if_pos h0, if_pos rfl, List.length_eq_zero_iff.mp h0]
    rfl
  · rw [if_neg h0]
    have hne : r.needs.map fmtNd ≠ [] := fun z => h0 (by have := congrArg List.length z; simpa using this)
    have hc : cut1 59 (TL.joinL [59] (r.needs.map fmtNd)) = r.needs.map fmtNd := cut_join hne fun p hp => by
      obtain ⟨d, hd, rfl⟩ := List.mem_map.mp hp
      exact (g.nd d hd).free (.inl rfl)
    rw [if_neg, hc]
    intro e
    rw [e] at hc
    have h2 : cut1 59 [45] = [[45]] := by decide +kernel
    rw [h2] at hc
    have hm : [45] ∈ r.needs.map fmtNd := by rw [← hc]; exact List.mem_singleton.mpr rfl
    obtain ⟨d, hd, z⟩ := List.mem_map.mp hm
    exact nd_not (g.nd d hd) z
theorem GRc.needs_ok {r : Rc} (g : GRc r) : needsOk (r.needs.map fmtNd) = true := by
  unfold needsOk
  rw [List.length_map, decide_eq_true g.n60, Bool.true_and, List.all_eq_true]
  intro w hw
  obtain ⟨d, hd, rfl⟩ := List.mem_map.mp hw
  exact (g.nd d hd).need
theorem GRc.quests {r : Rc} (g : GRc r) : ((r.needs.map fmtNd).map questL).Nodup := by
  have e : (r.needs.map fmtNd).map questL = r.needs.map fun d => TL.joinL [58] d.ws := by
    rw [List.map_map]
    exact List.map_congr_left fun d hd => (g.nd d hd).quest
  rw [e]
  exact g.nn
theorem GRc.outs_ok {r : Rc} (g : GRc r) : outsOk r.outs = true := by
  unfold outsOk
  rw [decide_eq_true g.o3, Bool.true_and, List.all_eq_true]
  exact fun o ho => (g.op o ho).1
theorem GRc.reads {r : Rc} (g : GRc r) : (r.needs.map fmtNd).map readNd = r.needs := by
  rw [List.map_map]
  have : ∀ l : List Nd, (∀ d ∈ l, GNd d) → l.map (readNd ∘ fmtNd) = l := fun l => by
    induction l with
    | nil => exact fun _ => rfl
    | cons d t ih =>
      intro h
      rw [List.map_cons, ih fun x hx => h x (List.mem_cons_of_mem _ hx)]
      show readNd (fmtNd d) :: t = _
      rw [(h d List.mem_cons_self).read]
  exact this _ g.nd
end Kn.Rp

/-! ### the records that the laws draw -/
namespace Kn.Rp
open PySem PySem.Spec PyProof.Rows L2 Evl SX Kn
def L37 : List Nat := (Str.ofString "abcdefghijklmnopqrstuvwxyz0123456789_").cps.toList
def nameN (n k : Nat) : List Nat := [L37.getD ((n + 7 * k) % 26) 0] ++ [L37.getD ((n / 3 + k) % 37) 0] ++ TL.numL (n % 97)
def pathN (n : Nat) : List Nat := TL.joinL [47] ((List.range (1 + n % 3)).map (nameN n))
def partsL : List (List Nat) := [[], [97], [10], [120, 32, 121], [126], [48], [114, 117, 108, 101, 115], [92], [92, 110]]
def textN (n : Nat) : List Nat := partsL.getD (n % 9) [] ++ TL.numL (n / 9 % 50)
def snN (n k : Nat) : Sn := if n % 5 = 0 then .no else .k (key (textN (n + k)))
def needN (n k : Nat) : Nd :=
  if n / 5 % 5 = 0 then ⟨[fileL, pathN n ++ TL.numL k], snN n k⟩
  else if n / 5 % 5 = 1 then ⟨[hasL, pathN n ++ TL.numL k], .b (decide (n % 2 = 0))⟩
  else if n / 5 % 5 = 2 then ⟨[lstL, [[], pathN n].getD (n % 2) [], [97, 42] ++ TL.numL k], .k (key (textN n))⟩
  else if n / 5 % 5 = 3 then ⟨[setL, [115] ++ TL.numL k], snN n k⟩
  else ⟨[lnkL, pathN n ++ TL.numL k], snN n k⟩
def outN (j k : Nat) : List Nat := [111, 117, 116] ++ TL.numL j ++ [120] ++ TL.numL k
def ruleN (m : Nat) : List Nat := [114, 117, 108, 101, 32] ++ TL.numL (m % 2)
def recN (ns : List Nat) (j : Nat) : Rc :=
  ⟨(List.range (1 + j % 3)).map (outN j), key (ruleN (ns.getD 11 0)), (List.range (ns.getD 0 0 % 5)).map fun k => needN (ns.getD (1 + k) 0) k, (List.range (1 + j % 3)).map fun k => key (textN (ns.getD (7 + k) 0))⟩
def wokB (w : List Nat) : Bool := w.all fun c => decide (c < 128) && !(decide (c = 58) || decide (c = 59) || decide (c = 32) || decide (c = 44))
theorem wok_of {w : List Nat} (h : wokB w = true) : WOk w ∧ ∀ c ∈ w, c < 128 := by
  unfold wokB at h
  rw [List.all_eq_true] at h
  have z : ∀ c ∈ w, c < 128 ∧ c ≠ 58 ∧ c ≠ 59 ∧ c ≠ 32 ∧ c ≠ 44 := fun c hc => by
    have := h c hc
    simp at this
    omega
  exact ⟨⟨fun hc => (z _ hc).2.1 rfl, fun hc => (z _ hc).2.2.1 rfl, fun hc => (z _ hc).2.2.2.1 rfl, fun hc => (z _ hc).2.2.2.2 rfl⟩, fun c hc => (z c hc).1⟩
theorem path_ok : ∀ n < 1000, (pathOk (pathN n) && wokB (pathN n) && decide ((pathN n).length ≤ 15) && (List.range 4).all fun k => pathOk (pathN n ++ TL.numL k)) = true := by decide +kernel
theorem small_ok : ∀ k < 4, (npOk ([97, 42] ++ TL.numL k) && wokB ([97, 42] ++ TL.numL k) && idOk ([115] ++ TL.numL k) && wokB ([115] ++ TL.numL k) && wokB (TL.numL k) && decide (TL.numL k = [48 + k])) = true := by decide +kernel
theorem text_ok : ∀ n < 1005, (decide (key (textN n) < 10 ^ 17) && (textN n).all fun c => decide (c < 128)) = true := by decide +kernel
theorem text_lt {n : Nat} (h : n < 1005) : key (textN n) < 10 ^ 17 ∧ ∀ c ∈ textN n, c < 128 := by
  have z := text_ok n h
  rw [Bool.and_eq_true, decide_eq_true_eq, List.all_eq_true] at z
  exact ⟨z.1, fun c hc => of_decide_eq_true (z.2 c hc)⟩
theorem text_gk {n : Nat} (h : n < 1005) : GK (key (textN n)) := ⟨key_pos _, Nat.lt_trans (text_lt h).1 (by decide +kernel)⟩
theorem text_len {n : Nat} (h : n < 1005) : (TL.numL (key (textN n))).length ≤ 17 := TL.numL_len (by decide) (text_lt h).1
theorem sn_gk {n k : Nat} (hn : n < 1000) (hk : k < 4) : GSn (snN n k) ∧ (∀ b, snN n k ≠ .b b) ∧ (fmtSn (snN n k)).length ≤ 17 := by
  unfold snN
  split
  · exact ⟨trivial, nofun, by decide⟩
  · exact ⟨text_gk (by omega), nofun, text_len (by omega)⟩
theorem app_wok {a b : List Nat} (ha : wokB a = true) (hb : wokB b = true) : wokB (a ++ b) = true := by
  unfold wokB at *
  rw [List.all_append, ha, hb]
  rfl
theorem need_good {n k : Nat} (hn : n < 1000) (hk : k < 4) : GNd (needN n k) := by
  have h1 := path_ok n hn
  rw [Bool.and_eq_true, Bool.and_eq_true, Bool.and_eq_true, List.all_eq_true] at h1
  obtain ⟨⟨⟨p1, p2⟩, p3⟩, p4⟩ := h1
  have p5 := p4 k (List.mem_range.mpr hk)
  have h2 := small_ok k hk
  simp only [Bool.and_eq_true] at h2
  obtain ⟨⟨⟨⟨⟨s1, s2⟩, s3⟩, s4⟩, s5⟩, s6⟩ := h2
  obtain ⟨g1, g2, g3⟩ := sn_gk hn hk
  have w1 := (wok_of (app_wok p2 s5)).1
  unfold needN
  split
  · exact .file p5 w1 g1 g2
  · split
    · exact .has p5 w1
    · split
      · refine .lst ?_ s1 ?_ (wok_of s2).1 (text_gk (by omega))
        · rcases Nat.mod_two_eq_zero_or_one n with z | z
          · rw [z]
            rfl
          · rw [z]
            show folderOk (pathN n) = true
            unfold folderOk
            rw [p1, Bool.or_true]
        · rcases Nat.mod_two_eq_zero_or_one n with z | z
          · rw [z]
            exact ⟨by simp, by simp, by simp, by simp⟩
          · rw [z]
            exact (wok_of p2).1
      · split
        · exact .set s3 (wok_of s4).1 g1 g2
        · exact .lnk p5 w1 g1 g2
theorem kind_len : fileL.length = 4 ∧ hasL.length = 3 ∧ lstL.length = 7 ∧ setL.length = 7 ∧ lnkL.length = 4 := by decide +kernel
theorem kind_128 : (∀ c ∈ fileL, c < 128) ∧ (∀ c ∈ hasL, c < 128) ∧ (∀ c ∈ lstL, c < 128) ∧ (∀ c ∈ setL, c < 128) ∧ (∀ c ∈ lnkL, c < 128) := by decide +kernel
theorem num_128 (n : Nat) : ∀ c ∈ TL.numL n, c < 128 := fun c hc => by
  have := TL.numL_digits n c hc
  omega
theorem sn_128 (s : Sn) : ∀ c ∈ fmtSn s, c < 128 := by
  cases s with
  | no => exact fun c hc => by rw [List.mem_singleton.mp hc]; decide
  | b x => cases x <;> (show ∀ c ∈ _, c < 128) <;> decide
  | k n => exact num_128 n
theorem join_lt {s : Nat} (hs : s < 128) : ∀ {ps : List (List Nat)}, (∀ p ∈ ps, ∀ c ∈ p, c < 128) → ∀ c ∈ TL.joinL [s] ps, c < 128
  | [], _ => fun c hc => by simp [TL.joinL] at hc
  | [p], h => fun c hc => h p List.mem_cons_self c hc
  | p :: q :: r, h => fun c hc => by
    have hc' : c ∈ p ++ ([s] ++ TL.joinL [s] (q :: r)) := hc
    rcases List.mem_append.mp hc' with z | z
    · exact h p List.mem_cons_self c z
    · rcases List.mem_append.mp z with z | z
      · rw [List.mem_singleton.mp z]
        exact hs
      · exact join_lt hs (fun x hx => h x (List.mem_cons_of_mem _ hx)) c z
theorem need_size {n k : Nat} (hn : n < 1000) (hk : k < 4) : (fmtNd (needN n k)).length ≤ 60 ∧ ∀ c ∈ fmtNd (needN n k), c < 128 := by
  have h1 := path_ok n hn
  rw [Bool.and_eq_true, Bool.and_eq_true, Bool.and_eq_true] at h1
  obtain ⟨⟨⟨_, p2⟩, p3⟩, _⟩ := h1
  have p3 := of_decide_eq_true p3
  have h2 := small_ok k hk
  simp only [Bool.and_eq_true] at h2
  obtain ⟨⟨⟨⟨⟨_, s2⟩, _⟩, s4⟩, s5⟩, s6⟩ := h2
  have e1 : (TL.numL k).length = 1 := by rw [of_decide_eq_true s6]; rfl
  obtain ⟨k1, k2, k3, k4, k5⟩ := kind_len
  obtain ⟨c1, c2, c3, c4, c5⟩ := kind_128
  obtain ⟨g1, g2, g3⟩ := sn_gk hn hk
  have tl := text_len (n := n) (by omega)
  have q := (wok_of p2).2
  have q2 := (wok_of (app_wok p2 s5)).2
  have two : ∀ (a b c : List Nat), (TL.joinL [58] [a, b, c]).length = a.length + b.length + c.length + 2 := fun a b c => by
    show (a ++ ([58] ++ (b ++ ([58] ++ c)))).length = _
    simp only [List.length_append, List.length_cons, List.length_nil]
    omega
  have three : ∀ (a b c d : List Nat), (TL.joinL [58] [a, b, c, d]).length = a.length + b.length + c.length + d.length + 3 := fun a b c d => by
    show (a ++ ([58] ++ (b ++ ([58] ++ (c ++ ([58] ++ d)))))).length = _
    simp only [List.length_append, List.length_cons, List.length_nil]
    omega
  have l1 : (pathN n ++ TL.numL k).length ≤ 16 := by rw [List.length_append]; omega
  unfold needN
  split
  · refine ⟨?_, join_lt (by decide) fun p hp => ?_⟩
    · show (TL.joinL [58] [fileL, pathN n ++ TL.numL k, fmtSn (snN n k)]).length ≤ 60
      rw [two]
      omega
    · have hp' : p ∈ [fileL, pathN n ++ TL.numL k, fmtSn (snN n k)] := hp
      simp only [List.mem_cons, List.not_mem_nil, or_false] at hp'
      rcases hp' with rfl | rfl | rfl
      · exact c1
      · exact q2
      · exact sn_128 _
  · split
    · refine ⟨?_, join_lt (by decide) fun p hp => ?_⟩
      · show (TL.joinL [58] [hasL, pathN n ++ TL.numL k, fmtSn (.b (decide (n % 2 = 0)))]).length ≤ 60
        rw [two]
        have : (fmtSn (.b (decide (n % 2 = 0)))).length ≤ 3 := by cases decide (n % 2 = 0) <;> decide
        omega
      · have hp' : p ∈ [hasL, pathN n ++ TL.numL k, fmtSn (.b (decide (n % 2 = 0)))] := hp
        simp only [List.mem_cons, List.not_mem_nil, or_false] at hp'
        rcases hp' with rfl | rfl | rfl
        · exact c2
        · exact q2
        · exact sn_128 _
    · split
      · have hd : ([[], pathN n].getD (n % 2) []).length ≤ 15 ∧ ∀ c ∈ [[], pathN n].getD (n % 2) [], c < 128 := by
          rcases Nat.mod_two_eq_zero_or_one n with z | z
          · rw [z]
            exact ⟨Nat.zero_le _, fun c hc => nomatch hc⟩
          · rw [z]
            exact ⟨p3, q⟩
        refine ⟨?_, join_lt (by decide) fun p hp => ?_⟩
        · show (TL.joinL [58] [lstL, [[], pathN n].getD (n % 2) [], [97, 42] ++ TL.numL k, TL.numL (key (textN n))]).length ≤ 60
          rw [three, List.length_append, e1]
          show _ + _ + (2 + 1) + _ + 3 ≤ 60
          omega
        · have hp' : p ∈ [lstL, [[], pathN n].getD (n % 2) [], [97, 42] ++ TL.numL k, TL.numL (key (textN n))] := hp
          simp only [List.mem_cons, List.not_mem_nil, or_false] at hp'
          rcases hp' with rfl | rfl | rfl | rfl
          · exact c3
          · exact hd.2
          · exact (wok_of s2).2
          · exact num_128 _
      · split
        · refine ⟨?_, join_lt (by decide) fun p hp => ?_⟩
          · show (TL.joinL [58] [setL, [115] ++ TL.numL k, fmtSn (snN n k)]).length ≤ 60
            rw [two, List.length_append, e1]
            show _ + (1 + 1) + _ + 2 ≤ 60
            omega
          · have hp' : p ∈ [setL, [115] ++ TL.numL k, fmtSn (snN n k)] := hp
            simp only [List.mem_cons, List.not_mem_nil, or_false] at hp'
            rcases hp' with rfl | rfl | rfl
            · exact c4
            · exact (wok_of s4).2
            · exact sn_128 _
        · refine ⟨?_, join_lt (by decide) fun p hp => ?_⟩
          · show (TL.joinL [58] [lnkL, pathN n ++ TL.numL k, fmtSn (snN n k)]).length ≤ 60
            rw [two]
            omega
          · have hp' : p ∈ [lnkL, pathN n ++ TL.numL k, fmtSn (snN n k)] := hp
            simp only [List.mem_cons, List.not_mem_nil, or_false] at hp'
            rcases hp' with rfl | rfl | rfl
            · exact c5
            · exact q2
            · exact sn_128 _
theorem app_last {a b : List Nat} (hb : b ≠ []) : (a ++ b).getLast? = b.getLast? := by
  rw [List.getLast?_append]
  cases h : b.getLast? with
  | none => exact absurd (List.getLast?_eq_none_iff.mp h) hb
  | some x => rfl
theorem last_join (a b : List Nat) (hb : b ≠ []) : (TL.joinL [58] [a, b]).getLast? = b.getLast? := by
  show (a ++ ([58] ++ b)).getLast? = _
  rw [← List.append_assoc, app_last hb]
theorem last_join3 (a b c : List Nat) (hc : c ≠ []) : (TL.joinL [58] [a, b, c]).getLast? = c.getLast? := by
  show (a ++ ([58] ++ (b ++ ([58] ++ c)))).getLast? = _
  rw [← List.append_assoc, ← List.append_assoc, ← List.append_assoc, app_last hc]
theorem quest_last {n k : Nat} (hk : k < 4) : (TL.joinL [58] (needN n k).ws).getLast? = some (48 + k) := by
  have h2 := small_ok k hk
  simp only [Bool.and_eq_true] at h2
  have e : TL.numL k = [48 + k] := of_decide_eq_true h2.2
  have ap : ∀ a : List Nat, (a ++ [48 + k]) ≠ [] ∧ (a ++ [48 + k]).getLast? = some (48 + k) := fun a => ⟨by simp, by simp⟩
  unfold needN
  rw [e]
  split
  · exact (last_join _ _ (ap _).1).trans (ap _).2
  · split
    · exact (last_join _ _ (ap _).1).trans (ap _).2
    · split
      · exact (last_join3 _ _ _ (ap _).1).trans (ap _).2
      · split
        · exact (last_join _ _ (ap _).1).trans (ap _).2
        · exact (last_join _ _ (ap _).1).trans (ap _).2
theorem outs_ok : ∀ j < 60, (((List.range (1 + j % 3)).map (outN j)).all (fun o => pathOk o && wokB o && decide (o.length ≤ 12)) && decide ((List.range (1 + j % 3)).map (outN j)).Nodup) = true := by decide +kernel
theorem rule_ok : ∀ m < 2, GK (key (ruleN m)) ∧ key (ruleN m) < 10 ^ 17 := by
  unfold GK
  decide +kernel
theorem rule_mod (m : Nat) : ruleN m = ruleN (m % 2) := by
  unfold ruleN
  rw [Nat.mod_mod]
theorem nodup_range {β : Type} {f : Nat → β} : ∀ n : Nat, (∀ i < n, ∀ j < n, f i = f j → i = j) → ((List.range n).map f).Nodup := fun n h =>
  List.pairwise_map.mpr ((List.nodup_range (n := n)).imp_of_mem fun ha hb hne z => hne (h _ (List.mem_range.mp ha) _ (List.mem_range.mp hb) z))
theorem sum_le {n b : Nat} {f : Nat → List Nat} (h : ∀ k < n, (f k).length ≤ b) : (((List.range n).map f).map (·.length)).sum ≤ n * b := by
  induction n with
  | zero => simp
  | succ n ih =>
    rw [List.range_succ, List.map_append, List.map_append, List.sum_append, Nat.succ_mul]
    have := ih fun k hk => h k (by omega)
    have := h n (by omega)
    show _ + ((f n).length + 0) ≤ _
    omega
theorem joinL_le (s : Nat) : ∀ (ps : List (List Nat)), (TL.joinL [s] ps).length ≤ (ps.map (·.length)).sum + ps.length
  | [] => Nat.le_refl _
  | [p] => by
    show p.length ≤ (p.length + 0) + 1
    omega
  | p :: q :: r => by
    have ih := joinL_le s (q :: r)
    show (p ++ ([s] ++ TL.joinL [s] (q :: r))).length ≤ _
    rw [List.length_append, List.length_append, List.map_cons, List.sum_cons, List.length_cons (a := p)]
    show p.length + (1 + _) ≤ _
    omega
theorem rec_good {ns : List Nat} {j : Nat} (hn : ∀ i, ns.getD i 0 < 1000) (hj : j < 60) : GRc (recN ns j) ∧ ((fmtRc (recN ns j)).length ≤ 600 ∧ ∀ c ∈ fmtRc (recN ns j), c < 128) := by
  have ho := outs_ok j hj
  rw [Bool.and_eq_true, List.all_eq_true, decide_eq_true_eq] at ho
  obtain ⟨ho, hnd⟩ := ho
  have ho' : ∀ o ∈ (recN ns j).outs, pathOk o = true ∧ wokB o = true ∧ o.length ≤ 12 := fun o h => by
    have := ho o h
    simp only [Bool.and_eq_true, decide_eq_true_eq] at this
    exact ⟨this.1.1, this.1.2, this.2⟩
  have hr := rule_ok (ns.getD 11 0 % 2) (Nat.mod_lt _ (by decide))
  rw [← rule_mod] at hr
  have h3 : 1 + j % 3 ≤ 3 := by omega
  have h5 : ns.getD 0 0 % 5 ≤ 4 := by omega
  have hks : ∀ k, k < ns.getD 0 0 % 5 → k < 4 := fun k hk => by omega
  have g : GRc (recN ns j) := by
    refine ⟨?_, ?_, hnd, fun o h => ?_, hr.1, ?_, ?_, fun d hd => ?_, ?_, fun n h => ?_⟩
    · intro z
      have := congrArg List.length z
      rw [show (recN ns j).outs = (List.range (1 + j % 3)).map (outN j) from rfl, List.length_map, List.length_range] at this
      simp at this
    · show ((List.range (1 + j % 3)).map (outN j)).length ≤ 3
      rw [List.length_map, List.length_range]
      exact h3
    · obtain ⟨h1, h2, _⟩ := ho' o h
      have := (wok_of h2).1
      exact ⟨h1, this.2.2.2, this.2.2.1⟩
    · show ((List.range (ns.getD 0 0 % 5)).map _).length ≤ 60
      rw [List.length_map, List.length_range]
      omega
    · show (((List.range (ns.getD 0 0 % 5)).map fun k => needN (ns.getD (1 + k) 0) k).map fun d => TL.joinL [58] d.ws).Nodup
      rw [List.map_map]
      refine nodup_range _ fun a ha b hb z => ?_
      have e1 := quest_last (n := ns.getD (1 + a) 0) (hks a ha)
      have e2 := quest_last (n := ns.getD (1 + b) 0) (hks b hb)
      have z' : TL.joinL [58] (needN (ns.getD (1 + a) 0) a).ws = TL.joinL [58] (needN (ns.getD (1 + b) 0) b).ws := z
      rw [z', e2] at e1
      have := Option.some.inj e1
      omega
    · obtain ⟨k, hk, rfl⟩ := List.mem_map.mp hd
      exact need_good (hn _) (hks k (List.mem_range.mp hk))
    · show ((List.range (1 + j % 3)).map _).length = ((List.range (1 + j % 3)).map (outN j)).length
      rw [List.length_map, List.length_map]
    · obtain ⟨k, hk, rfl⟩ := List.mem_map.mp h
      exact text_gk (by have := hn (7 + k); omega)
  refine ⟨g, ?_, ?_⟩
  · have l1 : (TL.joinL [44] (recN ns j).outs).length ≤ 39 := by
      have h1 := joinL_le 44 (recN ns j).outs
      have h2 : (((recN ns j).outs).map (·.length)).sum ≤ (1 + j % 3) * 12 := sum_le (n := 1 + j % 3) (b := 12) (f := outN j) fun k hk => (ho' (outN j k) (List.mem_map.mpr ⟨k, List.mem_range.mpr hk, rfl⟩)).2.2
      have h4 : ((recN ns j).outs).length = 1 + j % 3 := by
        show ((List.range (1 + j % 3)).map (outN j)).length = _
        rw [List.length_map, List.length_range]
      omega
    have l2 : (TL.numL (recN ns j).key).length ≤ 17 := TL.numL_len (by decide) hr.2
    have l3 : (fmtNds (recN ns j).needs).length ≤ 244 := by
      unfold fmtNds
      split
      · decide
      · have h1 := joinL_le 59 ((recN ns j).needs.map fmtNd)
        have e : (recN ns j).needs.map fmtNd = (List.range (ns.getD 0 0 % 5)).map fun k => fmtNd (needN (ns.getD (1 + k) 0) k) := List.map_map ..
        have h2 : (((recN ns j).needs.map fmtNd).map (·.length)).sum ≤ (ns.getD 0 0 % 5) * 60 := by
          rw [e]
          exact sum_le fun k hk => (need_size (hn _) (hks k hk)).1
        have h4 : ((recN ns j).needs.map fmtNd).length = ns.getD 0 0 % 5 := by rw [e, List.length_map, List.length_range]
        omega
    have l4 : (TL.joinL [44] ((recN ns j).res.map TL.numL)).length ≤ 54 := by
      have h1 := joinL_le 44 ((recN ns j).res.map TL.numL)
      have e : (recN ns j).res.map TL.numL = (List.range (1 + j % 3)).map fun k => TL.numL (key (textN (ns.getD (7 + k) 0))) := List.map_map ..
      have h2 : (((recN ns j).res.map TL.numL).map (·.length)).sum ≤ (1 + j % 3) * 17 := by
        rw [e]
        exact sum_le fun k hk => text_len (by have := hn (7 + k); omega)
      have h4 : ((recN ns j).res.map TL.numL).length = 1 + j % 3 := by rw [e, List.length_map, List.length_range]
      omega
    have h := joinL_le 32 (words (recN ns j))
    have e : ((words (recN ns j)).map (·.length)).sum = (TL.joinL [44] (recN ns j).outs).length + ((TL.numL (recN ns j).key).length + ((fmtNds (recN ns j).needs).length + ((TL.joinL [44] ((recN ns j).res.map TL.numL)).length + 0))) := rfl
    have e4 : (words (recN ns j)).length = 4 := rfl
    show (TL.joinL [32] (words (recN ns j))).length ≤ 600
    omega
  · refine join_lt (by decide) fun p hp => ?_
    simp only [words, List.mem_cons, List.not_mem_nil, or_false] at hp
    rcases hp with rfl | rfl | rfl | rfl
    · exact join_lt (by decide) fun o ho2 => (wok_of (ho' o ho2).2.1).2
    · exact num_128 _
    · unfold fmtNds
      split
      · decide
      · refine join_lt (by decide) fun p hp => ?_
        obtain ⟨d, hd, rfl⟩ := List.mem_map.mp hp
        obtain ⟨k, hk, rfl⟩ := List.mem_map.mp hd
        exact (need_size (hn _) (hks k (List.mem_range.mp hk))).2
    · refine join_lt (by decide) fun p hp => ?_
      obtain ⟨n, _, rfl⟩ := List.mem_map.mp hp
      exact num_128 n
end Kn.Rp

/-! ### len(set(xs)) of any texts -/
namespace Kn.Sets
open PySem PySem.Spec PyProof.Rows
/-- how many are in behind i turns -/
def Cnt (xs : List Str) (i m : Nat) : Prop := m ≤ i ∧ (m = i ↔ (xs.take i).Nodup)
theorem cnt_next {xs : List Str} {i m : Nat} {x : Str} (c : Cnt xs i m) (h : xs[i]? = some x) : Cnt xs (i + 1) (if seen xs i x = true then m else m + 1) := by
  obtain ⟨c1, c2⟩ := c
  have e : (xs.take (i + 1)).Nodup ↔ (xs.take i).Nodup ∧ seen xs i x = false := by
    rw [List.take_add_one, h, List.nodup_append]
    unfold seen
    rw [List.any_eq_false]
    constructor
    · rintro ⟨h1, _, h3⟩
      exact ⟨h1, fun y hy z => h3 y hy x (by simp) (by simpa using z)⟩
    · rintro ⟨h1, h2⟩
      refine ⟨h1, by simp, fun a ha b hb z => h2 a ha ?_⟩
      have : b = x := by simpa using hb
      rw [z, this]
      simp
  split
  · next hs =>
    refine ⟨by omega, ⟨fun z => by omega, fun z => ?_⟩⟩
    rw [e] at z
    rw [hs] at z
    exact absurd z.2 (by simp)
  · next hs =>
    refine ⟨by omega, ?_⟩
    rw [e, ← c2]
    constructor
    · intro z
      exact ⟨by omega, by simpa using hs⟩
    · intro z
      omega
section
variable {prog : Program} {w : World} {A : Around}
/-- one turn after another -/
theorem turnsG {I S : Addr} {fp wr : List Addr} {G : Array GenState → Array GenState → Prop} {n : Nat} {Pi : Nat → Value → Prop} {St : Nat → Shared → Prop} {R : Result → Shared → Prop} (W : WalksS prog w A.in1 I fp wr G n Pi St) (hS : S ∉ fp)
    {xs : List Str} (hn : xs.length = n) (few : n + 1 < scanBound) (at' : ∀ i v, Pi i v → ∃ x t, xs[i]? = some x ∧ v = .str x t) (d : Nat) :
    ∀ (i m : Nat) (s : Shared), i + d = n → St i s → s.heap.SetOf (PySem.strKind prog w) S (seen xs i) m → Cnt xs i m →
      (∀ s' m, Moved (S :: wr) G s s' → s'.heap.SetOf (PySem.strKind prog w) S (seen xs n) m → Cnt xs n m → R (.ok (.ret .none)) s') → codeAny (model prog w) A (.builtin "set.update.loop" ⟨[.ref S, .ref I], []⟩) R s := by
  have out : S ∉ wr := fun z => hS (W.sub _ z)
  have more : ∀ b ∈ wr, b ∈ S :: wr := fun b z => List.mem_cons_of_mem _ z
  have kept : ∀ {s s' : Shared} {f : Str → Bool} {m : Nat}, Moved wr G s s' → s.heap.SetOf (PySem.strKind prog w) S f m → s'.heap.SetOf (PySem.strKind prog w) S f m := fun hm ⟨o, es, ep, tb, ho, r⟩ => ⟨o, es, ep, tb, hm.heap S _ out ho, r⟩
  induction d with
  | zero =>
    intro i m s e st so cn k
    obtain rfl : i = n := e
    refine codeAny_builtin F.entry_set_update_loop ?_
    rw [Around.under_plainId F.plain_set_update_loop _]
    exact wpAny_bind (W.done s _ _ st fun s' hm => wpAny_pure (k s' m (hm.mono more) (kept hm so) cn))
  | succ d ih =>
    intro i m s e st so cn k
    have lt : i < n := by omega
    refine codeAny_builtin F.entry_set_update_loop ?_
    rw [Around.under_plainId F.plain_set_update_loop _]
    refine wpAny_bind (W.item i s _ _ lt st fun v s' hP st' hm => ?_)
    obtain ⟨x, t, hx, rfl⟩ := at' i v hP
    have so1 := kept hm so
    refine wpAny_bind (m := holding [Value.str x t] (setAdd S (.str x t))) (wpAny_holding ?_)
    unfold setAdd
    refine wpAny_holding (wpAny_bind ((PySem.strKind prog w).pyHash (k := x) (strKind_is _ _ _ _) ?_))
    refine wpAny_setAddHashed_of (knd := PySem.strKind prog w) (s := { s' with toks := s'.toks + 1 }) (strKind_is _ _ _ _) rfl so1 (by have := cn.1; omega) fun h' same so2 => ?_
    have so3 := SetOf_congr so2 (seen_next hx) rfl
    refine wpAny_pure ⟨plainId_quiet F.plain_set_update_loop _, ih (i + 1) _ _ (by omega) (W.frame _ s' _ _ st' (Nat.le_succ _) fun b hb o e => ?_) so3 (cnt_next cn hx) fun s2 m2 hm2 so4 cn2 => ?_⟩
    · rw [same.2 b fun z => hS (z ▸ hb)]
      exact e
    · refine k s2 m2 (Moved.trans W.gtrans ((hm.mono more).then_heap (Nat.le_succ _) fun b o hb e => ?_) hm2) so4 cn2
      rw [same.2 b fun z => hb (z ▸ List.mem_cons_self)]
      exact e
end

/-- the texts are in the set at the end of h; h' keeps what was in h -/
def FullG (prog : Program) (w : World) (h : Heap) (xs : List Str) (m : Nat) (h' : Heap) : Prop := h'.SetOf (PySem.strKind prog w) h.objs.size (seen xs xs.length) m ∧ Cnt xs xs.length m ∧ ∀ b o, b < h.objs.size → h.get? b = some o → h'.get? b = some o
section
variable {prog : Program} {w : World} {A : Around} {E : Value → Shared → Prop} {s : Shared}
theorem makeG {l : Addr} {items : Array Value} {xs : List Str} {Q : Value → Shared → Prop} (hh : A.handled = none) (hl : s.heap.IsList l items) (at' : ∀ (i : Nat) (v : Value), items[i]? = some v → ∃ (x : Str) (t : Tok), xs[i]? = some x ∧ v = .str x t) (hn : xs.length = items.size) (few : items.size + 1 < scanBound)
    (q : ∀ (m : Nat) (h' : Heap) (tk : Nat), FullG prog w s.heap xs m h' → Q (.ref s.heap.objs.size) { s with heap := h', toks := tk }) : wpAny (model prog w) A (call (.type "set") [.ref l]) Q E s := by
  have z1 := PySem.F.called_set.made
  have z2 := PySem.F.called_set.sub
  have z3 := PySem.F.called_set.notType
  have z4 := PySem.F.called_set.canCreate
  have z5 := PySem.F.typeCall_set_1 (.ref l)
  have ⟨_, _, z6⟩ := PySem.F.called_set.mro
  refine wpAny_call (codeAny_of_tree (show wpAny _ _ (callAny (.type "set") _) _ _ _ from wpAny_pure ⟨Code.quiet_builtin _ (by decide +kernel), codeAny_builtin PySem.F.entry_type_call ?_⟩))
  rw [Around.under_plain (weight_type_call_type "set" [.ref l] []) rfl]
  repeat (any_goals (first | assumption | wp_step))
  refine codeAny_mono (code_set_new_1 (.ref l) (E := E) (Q₁ := fun v s1 => ∃ led, v = .ref s.heap.objs.size ∧ s1 = { s with heap := s.heap.push (newS led) }) fun led => ⟨led, rfl, rfl⟩) fun r s1 hr => ?_
  match r, hr with
  | .error e, hr => exact hr
  | .ok (.ret v), hr =>
    obtain ⟨led, rfl, rfl⟩ := hr
    have new : (s.heap.push (newS led)).get? s.heap.objs.size = some (newS led) := Heap.get?_push_size _ rfl
    have isS : Shared.TypeIs { s with heap := s.heap.push (newS led) } (.ref s.heap.objs.size) "set" := ⟨_, new, rfl⟩
    have z7 := PySem.F.called_set.init.lookup
    have z8 := PySem.F.called_set.init.bind (.ref s.heap.objs.size)
    repeat (any_goals (first | assumption | wp_step))
    refine codeAny_mono (codeAny_call_builtin (R := wants (fun r s2 => r = .none ∧ ∃ m h' tk, s2 = { s with heap := h', toks := tk } ∧ FullG prog w s.heap xs m h') E) PySem.F.called_set.init.plain PySem.F.entry_set_init (check_set_init_1 isS ?_)) fun r2 s2 hr2 => ?_
    · obtain ⟨⟨oc, od, oda, osl⟩, ho, hcl, m, hda⟩ := hl
      cases (show oc = .type "list" from hcl)
      cases (show oda = .seq items m from hda)
      have ho2 : (s.heap.push (newS led)).get? l = some { cls := .type "list", dict := od, data := .seq items m, slots := osl } := Heap.get?_push_of_some _ ho
      have hl2 : (s.heap.push (newS led)).IsList l items := ⟨_, ho2, rfl, m, rfl⟩
      have y1 := PySem.F.sub_list_set
      have y2 := PySem.F.sub_list_frozenset
      have y3 : (Value.type "list" == Value.type "dict") = false := by decide
      unfold Builtin.«set.__init__» noKeywords Builtin.Frozenset.updateFrom
      generalize hp : pyIter = pI
      wp_walk
      subst hp
      refine wpAny_pyIter_list hl2 (wpAny_bind (wpAny_runValue ?_))
      have ll : l < s.heap.objs.size := Heap.lt_size ho
      have sz : (s.heap.push (newS led)).objs.size = s.heap.objs.size + 1 := Heap.size_push ..
      have n1 : l ≠ (s.heap.push (newS led)).objs.size := by rw [sz]; exact Nat.ne_of_lt (Nat.lt_succ_of_lt ll)
      have n2 : s.heap.objs.size ∉ [(s.heap.push (newS led)).objs.size, l] := by simp only [List.mem_cons, List.not_mem_nil, or_false, sz, not_or]; exact ⟨Nat.ne_of_lt (Nat.lt_succ_self _), Nat.ne_of_gt ll⟩
      have so : ((s.heap.push (newS led)).push (itS l)).SetOf (PySem.strKind prog w) s.heap.objs.size (seen xs 0) 0 := SetOf_congr ((setObjOf_fresh (knd := PySem.strKind prog w) led).setOf (Heap.get?_push_of_some _ new) (by unfold scanBound; omega)) (fun _ => rfl) rfl
      refine turnsG ((Walks.list (show A.in1.in1.in1.handled = none by simp [hh]) _ l n1 items).toS) n2 hn (by omega) at' items.size 0 0 _ (by omega) ⟨⟨_, Heap.get?_push_size _ rfl, rfl, rfl⟩, hl2.push _⟩ so ⟨Nat.le_refl _, by simp⟩ fun s' m hm so' cn => ?_
      obtain ⟨h', g', d', tk', os'⟩ := s'
      cases (show g' = s.gens from hm.gens)
      cases (show d' = s.drawn from hm.drawn)
      cases (show os' = s.os from hm.os)
      refine wpAny_pure (wpAny_pure ⟨rfl, m, h', tk', rfl, by rw [hn]; exact so', by rw [hn]; exact cn, fun b o hb e => ?_⟩)
      refine hm.heap b o ?_ (Heap.get?_push_of_some _ (Heap.get?_push_of_some _ e))
      simp only [List.mem_cons, List.not_mem_nil, or_false, sz, not_or]
      exact ⟨Nat.ne_of_lt hb, Nat.ne_of_lt (Nat.lt_succ_of_lt hb)⟩
    · match r2, hr2 with
      | .error e, hr2 => exact hr2
      | .ok (.ret v), hr2 =>
        obtain ⟨rfl, m, h', tk, rfl, f⟩ := hr2
        repeat (any_goals (first | assumption | wp_step))
        exact q _ _ _ f
end
end Kn.Sets
namespace Kn
open PySem PySem.Spec PyProof.Rows L2 Evl SX
section
variable {X : Cx}
/-- len(set(xs)), xs a list of texts -/
def tLenSetG (K : PySem.W.Frag) (ta : TE) : TE := fun σ H Q => ta σ H fun x H1 => ∃ (l : Addr) (xs : List Str), x = .ref l ∧ SqL K H1 l (xs.map V.str) ∧ xs.length ≤ 4000 ∧ ∀ m, Sets.Cnt xs xs.length m → Q (.int m) H1
theorem pe_lenSetG {a : Expr} {ta : TE} {p p2 q pos : Pos} (hc : X.calm = true) (hg : Gl X "len") (hm : X.mg "len" = none) (hg2 : Gl X "set") (hm2 : X.mg "set" = none) (ha : PE X a ta)
    (na : starEach [a] X.env = (false, eval a X.env) :: starEach [] X.env := by rfl) : PE X (.Call (.Name "len" p) [.Call (.Name "set" p2) [a] [] q] [] pos) (tLenSetG X.K ta) := ⟨fun pins s σ H Q I h => by
  refine Call_ (ld_blt I hg hm boot_len (callWith_builtin1 (args_cons ?_ rfl) rfl rfl))
  refine Call_ (ld_blt I hg2 hm2 boot_set (callWith_type1 (args_cons (thn (ha.run pins s σ H _ I h) fun v s1 z => args_nil ?_) na) na rfl))
  obtain ⟨x, H1, I1, r1, l, xs, rfl, hq, few, q1⟩ := z
  cases r1
  obtain ⟨us, r, pl, _⟩ := I1.list hq
  obtain ⟨hl, at'⟩ := texts_at r
  have hsz : xs.length = us.toArray.size := by rw [List.size_toArray]; exact hl
  refine Sets.makeG (I1.ok.hd hc) pl.isList (fun i v e => at' i v (by simpa using e)) hsz (by unfold scanBound; omega) fun m h' tk f => args_nil ?_
  obtain ⟨⟨o, es, ep, t, ho, hex, hd, _, _, _, hf, hn⟩, cn, hk⟩ := f
  have I2 : Inv X pins σ H1 { s1 with heap := h', toks := tk } := I1.kept fun b o e => hk b o (Heap.lt_size e) e
  exact call_len_set ho hex hd hf (by rw [hn]; have := cn.1; omega) ⟨.int m, H1, I2.tok _, ⟨_, by rw [hn]⟩, q1 m cn⟩⟩

theorem ev_setEq {K : PySem.W.Frag} {σ : L2.St} {H : Hp} {ta tb : TE} {p : Addr} {ls : List (List Nat)} (h : Ev ta σ H (.ref p)) (hp : SqL K H p (ls.map fun l => V.str (S l))) (hl : ls.length ≤ 4000) (hb : Ev tb σ H (.int (ls.length : Int))) : Ev (tOp rEq (tLenSetG K ta) tb) σ H (.bl (decide ls.Nodup)) := fun H1 e Q q =>
  h H1 e _ fun H2 e2 => ⟨p, ls.map S, rfl, by rw [List.map_map]; exact ex_l (e.trans e2) hp, by rw [List.length_map]; exact hl, fun m cn => hb H2 (e.trans e2) _ fun H3 e3 => by
    obtain ⟨c1, c2⟩ := cn
    rw [List.take_length, List.length_map] at c2
    have nd : (ls.map S).Nodup ↔ ls.Nodup := ⟨fun h => (List.pairwise_map.mp h).imp fun a b => a (by rw [b]), fun h => List.pairwise_map.mpr (h.imp fun a b => a (S_inj b))⟩
    rw [nd] at c2
    have e : (.bl (decide ls.Nodup) : V) = .bl (decide ((m : Int) = (ls.length : Int))) := by
      congr 1
      rw [decide_eq_decide, ← c2]
      omega
    refine rv_eqI (H := H3) H3 (Ex.refl _) Q fun H4 e4 => ?_
    rw [← e]
    exact q H4 ((e2.trans e3).trans e4)⟩
end
end Kn

/-! Kq: sorted(set(xs)) of texts. -/
namespace Kn.SetsT
open PySem PySem.Spec PyProof.Rows L2 PySem.Froz
section
variable {P : Program} {w : World} {A : Around} {E : Value → Shared → Prop} {s : Shared}
/-- a set of the texts l, each once, with what its walk wants -/
structure TxR (P : Program) (w : World) (h : Heap) (a : Addr) (l : List Str) : Prop where
  ex : ∃ (es : Array (Int × Value)) (ep : Nat) (t : SetTable), h.get? a = some (sObj "set" (es, ep, t)) ∧ TxOk P w (es, ep, t) l ∧ Ris t.place.toList ∧ (w.params.followText "set-order" = true ∨ t.led = true) ∧ (es.toList.map fun e => PyProof.Rows.strOf e.2).Perm l
theorem TxR.at {h h' : Heap} {a : Addr} {l : List Str} (R : TxR P w h a l) (k : ∀ o, h.get? a = some o → h'.get? a = some o) : TxR P w h' a l := by
  obtain ⟨es, ep, t, h1, h2⟩ := R.ex
  exact ⟨es, ep, t, k _ h1, h2⟩
theorem tail_facts {ep : Nat} {es1 : Array (Int × Value)} {t2 : SetTable} {wd : Bool} (r : Ris t2.place.toList) : Ris (tailTx ep es1 t2 wd).2.2.place.toList ∧ (tailTx ep es1 t2 wd).2.2.led = t2.led ∧ (tailTx ep es1 t2 wd).1.toList.Perm es1.toList := by
  unfold tailTx
  split
  · exact ⟨relayAll_ris t2 es1 _, relayAll_led t2 es1 _, relayAll_perm t2 es1 _⟩
  · exact ⟨r, rfl, .rfl⟩
theorem add_facts {h : Int} {v : Value} {D : SD} (r : Ris D.2.2.place.toList) : Ris (addTx h v D).2.2.place.toList ∧ (addTx h v D).2.2.led = D.2.2.led ∧ (addTx h v D).1.toList.Perm (D.1.push (h, v)).toList := by
  obtain ⟨es, ep, t⟩ := D
  have r1 := layNew_ris t es h v r
  have l1 := layNew_led t es h v
  have p1 := layNew_perm t es h v
  have z : Ris (if (layNew t es h v).2.1.plain = true then { (layNew t es h v).2.1 with plain := false } else (layNew t es h v).2.1).place.toList ∧ (if (layNew t es h v).2.1.plain = true then { (layNew t es h v).2.1 with plain := false } else (layNew t es h v).2.1).led = t.led := by
    split
    · exact ⟨r1, l1⟩
    · exact ⟨r1, l1⟩
  obtain ⟨a1, a2, a3⟩ := tail_facts (ep := ep) (es1 := (layNew t es h v).1) (wd := (layNew t es h v).2.2.1) z.1
  exact ⟨a1, a2.trans z.2, a3.trans p1⟩
theorem addT {a : Addr} {l : List Str} {k : Str} {u : Tok} {Q : Bool → Shared → Prop} (R : TxR P w s.heap a l) (room : l.length + 1 < scanBound)
    (q : ∀ h' b, Heap.SameBut a s.heap h' → TxR P w h' a (if k ∈ l then l else k :: l) → Q b { s with heap := h' }) : wpAny (model P w) A (setAddHashed a (.str k u) (hashStr w k)) Q E s := by
  obtain ⟨es, ep, t, ho, F, r, hl, pm⟩ := R.ex
  by_cases hk : k ∈ l
  · have q1 := q s.heap false (Heap.SameBut.refl a s.heap) (by rw [if_pos hk]; exact R)
    have hd : (sObj "set" (es, ep, t)).data = .set es ep t := rfl
    have hf : t.fits es.size = true := F.fit
    have hel : ElemsOf (PySem.strKind P w) es.toList := F.el
    have hb0 : es.size < scanBound := by have := F.sz; have z : es.size = l.length := this; omega
    have hkey : (PySem.strKind P w).is k (.str k u) = true := is_str k u
    unfold setAddHashed setAddHashedIn
    refine wpAny_holding (wpAny_bind (wpAny_setState_of ho hd hf ?_))
    dsimp only
    rw [byScan_of rfl hb0 hel]
    simp only [↓reduceIte]
    unfold setAddByScan
    refine wpAny_bind ?_
    refine wpAny_bind (wpAny_rule ?_)
    refine wpAny_bind (wpAny_setScan_of (knd := PySem.strKind P w) (k := k) hkey ho hd hf hel ?_)
    cases hfi : List.findIdx? (fun e => (PySem.strKind P w).is k e.2) es.toList with
    | some j =>
      dsimp only
      exact wpAny_pure (wpAny_pure q1)
    | none =>
      obtain ⟨e, he, hi⟩ := (F.mem k).mp hk
      have c := List.findIdx?_eq_none_iff.mp hfi e he
      rw [hi] at c
      cases c
  · obtain ⟨f1, f2, f3⟩ := add_facts (h := hashStr w k) (v := .str k u) (D := (es, ep, t)) r
    refine add_x ho F hk room (q _ true (Heap.SameBut.update ..) ?_)
    rw [if_neg hk]
    refine ⟨_, _, _, get_upd _ ho rfl, add_ok u F, f1, hl.imp id fun z => f2.trans z, ?_⟩
    refine (f3.map _).trans ?_
    rw [Array.toList_push, List.map_append]
    refine (List.perm_append_comm).trans ?_
    exact List.Perm.cons k pm
/-- what the set has behind i turns -/
def Got (xs : List Str) (i : Nat) (l : List Str) : Prop := l.Nodup ∧ (∀ z, z ∈ l ↔ z ∈ xs.take i) ∧ l.length ≤ i
theorem got_next {xs : List Str} {i : Nat} {l : List Str} {x : Str} (g : Got xs i l) (h : xs[i]? = some x) : Got xs (i + 1) (if x ∈ l then l else x :: l) := by
  obtain ⟨nd, m, le⟩ := g
  have e : xs.take (i + 1) = xs.take i ++ [x] := by rw [List.take_succ, h]; rfl
  split
  · next hx =>
    refine ⟨nd, fun z => ?_, by omega⟩
    rw [e, List.mem_append, ← m z, List.mem_singleton]
    exact ⟨.inl, fun y => y.elim id fun y => y ▸ hx⟩
  · next hx =>
    refine ⟨List.nodup_cons.mpr ⟨hx, nd⟩, fun z => ?_, by rw [List.length_cons]; omega⟩
    rw [e, List.mem_append, ← m z, List.mem_singleton, List.mem_cons]
    exact Or.comm
end
section
variable {prog : Program} {w : World} {A : Around}
theorem turnsT {I S : Addr} {fp wr : List Addr} {G : Array GenState → Array GenState → Prop} {n : Nat} {Pi : Nat → Value → Prop} {St : Nat → Shared → Prop} {R : Result → Shared → Prop} (W : WalksS prog w A.in1 I fp wr G n Pi St) (hS : S ∉ fp)
    {xs : List Str} (hn : xs.length = n) (few : n + 1 < scanBound) (at' : ∀ i v, Pi i v → ∃ x t, xs[i]? = some x ∧ v = .str x t) (d : Nat) :
    ∀ (i : Nat) (l : List Str) (s : Shared), i + d = n → St i s → TxR prog w s.heap S l → Got xs i l →
      (∀ s' l', Moved (S :: wr) G s s' → TxR prog w s'.heap S l' → Got xs n l' → R (.ok (.ret .none)) s') → codeAny (model prog w) A (.builtin "set.update.loop" ⟨[.ref S, .ref I], []⟩) R s := by
  have out : S ∉ wr := fun z => hS (W.sub _ z)
  have more : ∀ b ∈ wr, b ∈ S :: wr := fun b z => List.mem_cons_of_mem _ z
  have kept : ∀ {s s' : Shared} {l : List Str}, Moved wr G s s' → TxR prog w s.heap S l → TxR prog w s'.heap S l := fun hm r => r.at fun o e => hm.heap S _ out e
  induction d with
  | zero =>
    intro i l s e st so gt k
    obtain rfl : i = n := e
    refine codeAny_builtin F.entry_set_update_loop ?_
    rw [Around.under_plainId F.plain_set_update_loop _]
    exact wpAny_bind (W.done s _ _ st fun s' hm => wpAny_pure (k s' l (hm.mono more) (kept hm so) gt))
  | succ d ih =>
    intro i l s e st so gt k
    have lt : i < n := by omega
    refine codeAny_builtin F.entry_set_update_loop ?_
    rw [Around.under_plainId F.plain_set_update_loop _]
    refine wpAny_bind (W.item i s _ _ lt st fun v s' hP st' hm => ?_)
    obtain ⟨x, t, hx, rfl⟩ := at' i v hP
    have so1 := kept hm so
    refine wpAny_bind (m := holding [Value.str x t] (setAdd S (.str x t))) (wpAny_holding ?_)
    unfold setAdd
    refine wpAny_holding (wpAny_bind ((PySem.strKind prog w).pyHash (k := x) (strKind_is _ _ _ _) ?_))
    refine addT (s := { s' with toks := s'.toks + 1 }) so1 (by have := gt.2.2; omega) fun h' b same so2 => ?_
    refine wpAny_pure ⟨plainId_quiet F.plain_set_update_loop _, ih (i + 1) _ _ (by omega) (W.frame _ s' _ _ st' (Nat.le_succ _) fun b hb o e => ?_) so2 (got_next gt hx) fun s2 l2 hm2 so4 gt2 => ?_⟩
    · rw [same.2 b fun z => hS (z ▸ hb)]
      exact e
    · refine k s2 l2 (Moved.trans W.gtrans ((hm.mono more).then_heap (Nat.le_succ _) fun b o hb e => ?_) hm2) so4 gt2
      rw [same.2 b fun z => hb (z ▸ List.mem_cons_self)]
      exact e
end
section
variable {P : Program} {prog : Program} {w : World} {A : Around} {E : Value → Shared → Prop} {s : Shared}
theorem new_led (a : Value) {Q₁ : Value → Shared → Prop} (h : Q₁ (.ref s.heap.objs.size) { s with heap := s.heap.push (Kn.Sets.newS (!w.params.followText "set-order")) }) :
    codeAny (model prog w) A (.call (.builtin "set.__new__") ⟨[.type "set", a], []⟩) (wants Q₁ E) s := by
  apply codeAny_of_tree
  change wpAny _ A.in1 (do checkBuiltinCall "set.__new__" ⟨[.type "set", a], []⟩; again (.builtin "set.__new__" ⟨[.type "set", a], []⟩)) _ _ s
  refine wpAny_bind (wpAny_of_eq (PySem.F.newCall_set_1 a) (wpAny_pure ⟨plainId_quiet PySem.F.plain_set_new _, codeAny_builtin PySem.F.entry_set_new ?_⟩))
  rw [Around.under_plainId PySem.F.plain_set_new _]
  unfold Builtin.«set.__new__» Builtin.Frozenset.newClass
  have isub := sub_set_self
  obtain ⟨hp, g, d, tk, os⟩ := s
  dsimp only
  wp_walk
  refine wpAny_askSetting (wpAny_pure ?_)
  dsimp only
  simp only [newObj]
  refine wpAny_bind (wpAny_alloc (wpAny_pure ?_))
  exact wpAny_pure h
def FullT (prog : Program) (w : World) (h : Heap) (xs : List Str) (l : List Str) (h' : Heap) : Prop := TxR prog w h' h.objs.size l ∧ Got xs xs.length l ∧ ∀ b o, b < h.objs.size → h.get? b = some o → h'.get? b = some o
theorem makeT {l : Addr} {items : Array Value} {xs : List Str} {Q : Value → Shared → Prop} (hh : A.handled = none) (hl : s.heap.IsList l items) (at' : ∀ (i : Nat) (v : Value), items[i]? = some v → ∃ (x : Str) (t : Tok), xs[i]? = some x ∧ v = .str x t) (hn : xs.length = items.size) (few : items.size + 1 < scanBound)
    (q : ∀ (ys : List Str) (h' : Heap) (tk : Nat), FullT prog w s.heap xs ys h' → Q (.ref s.heap.objs.size) { s with heap := h', toks := tk }) : wpAny (model prog w) A (call (.type "set") [.ref l]) Q E s := by
  have z1 := PySem.F.called_set.made
  have z2 := PySem.F.called_set.sub
  have z3 := PySem.F.called_set.notType
  have z4 := PySem.F.called_set.canCreate
  have z5 := PySem.F.typeCall_set_1 (.ref l)
  have ⟨_, _, z6⟩ := PySem.F.called_set.mro
  refine wpAny_call (codeAny_of_tree (show wpAny _ _ (callAny (.type "set") _) _ _ _ from wpAny_pure ⟨Code.quiet_builtin _ (by decide +kernel), codeAny_builtin PySem.F.entry_type_call ?_⟩))
  rw [Around.under_plain (weight_type_call_type "set" [.ref l] []) rfl]
  repeat (any_goals (first | assumption | wp_step))
  refine codeAny_mono (new_led (.ref l) (E := E) (Q₁ := fun v s1 => v = .ref s.heap.objs.size ∧ s1 = { s with heap := s.heap.push (Kn.Sets.newS (!w.params.followText "set-order")) }) ⟨rfl, rfl⟩) fun r s1 hr => ?_
  generalize hled : (!w.params.followText "set-order") = led at hr
  match r, hr with
  | .error e, hr => exact hr
  | .ok (.ret v), hr =>
    obtain ⟨rfl, rfl⟩ := hr
    have new : (s.heap.push (Kn.Sets.newS led)).get? s.heap.objs.size = some (Kn.Sets.newS led) := Heap.get?_push_size _ rfl
    have isS : Shared.TypeIs { s with heap := s.heap.push (Kn.Sets.newS led) } (.ref s.heap.objs.size) "set" := ⟨_, new, rfl⟩
    have z7 := PySem.F.called_set.init.lookup
    have z8 := PySem.F.called_set.init.bind (.ref s.heap.objs.size)
    repeat (any_goals (first | assumption | wp_step))
    refine codeAny_mono (codeAny_call_builtin (R := wants (fun r s2 => r = .none ∧ ∃ ys h' tk, s2 = { s with heap := h', toks := tk } ∧ FullT prog w s.heap xs ys h') E) PySem.F.called_set.init.plain PySem.F.entry_set_init (check_set_init_1 isS ?_)) fun r2 s2 hr2 => ?_
    · obtain ⟨⟨oc, od, oda, osl⟩, ho, hcl, m, hda⟩ := hl
      cases (show oc = .type "list" from hcl)
      cases (show oda = .seq items m from hda)
      have ho2 : (s.heap.push (Kn.Sets.newS led)).get? l = some { cls := .type "list", dict := od, data := .seq items m, slots := osl } := Heap.get?_push_of_some _ ho
      have hl2 : (s.heap.push (Kn.Sets.newS led)).IsList l items := ⟨_, ho2, rfl, m, rfl⟩
      have y1 := PySem.F.sub_list_set
      have y2 := PySem.F.sub_list_frozenset
      have y3 : (Value.type "list" == Value.type "dict") = false := by decide
      unfold Builtin.«set.__init__» noKeywords Builtin.Frozenset.updateFrom
      generalize hp : pyIter = pI
      wp_walk
      subst hp
      refine wpAny_pyIter_list hl2 (wpAny_bind (wpAny_runValue ?_))
      have ll : l < s.heap.objs.size := Heap.lt_size ho
      have sz : (s.heap.push (Kn.Sets.newS led)).objs.size = s.heap.objs.size + 1 := Heap.size_push ..
      have n1 : l ≠ (s.heap.push (Kn.Sets.newS led)).objs.size := by rw [sz]; exact Nat.ne_of_lt (Nat.lt_succ_of_lt ll)
      have n2 : s.heap.objs.size ∉ [(s.heap.push (Kn.Sets.newS led)).objs.size, l] := by simp only [List.mem_cons, List.not_mem_nil, or_false, sz, not_or]; exact ⟨Nat.ne_of_lt (Nat.lt_succ_self _), Nat.ne_of_gt ll⟩
      have so : TxR prog w ((s.heap.push (Kn.Sets.newS led)).push (Kn.Sets.itS l)) s.heap.objs.size [] := ⟨#[], 0, _, Heap.get?_push_of_some _ new, TxOk.nil (by rfl), List.Pairwise.nil, by
        show _ ∨ led = true
        rw [← hled]
        cases w.params.followText "set-order"
        · exact .inr rfl
        · exact .inl rfl, .nil⟩
      refine turnsT ((Walks.list (show A.in1.in1.in1.handled = none by simp [hh]) _ l n1 items).toS) n2 hn (by omega) at' items.size 0 [] _ (by omega) ⟨⟨_, Heap.get?_push_size _ rfl, rfl, rfl⟩, hl2.push _⟩ so ⟨List.nodup_nil, fun z => by simp, Nat.le_refl 0⟩ fun s' ys hm so' gt => ?_
      obtain ⟨h', g', d', tk', os'⟩ := s'
      cases (show g' = s.gens from hm.gens)
      cases (show d' = s.drawn from hm.drawn)
      cases (show os' = s.os from hm.os)
      refine wpAny_pure (wpAny_pure ⟨rfl, ys, h', tk', rfl, so', by rw [hn]; exact gt, fun b o hb e => ?_⟩)
      refine hm.heap b o ?_ (Heap.get?_push_of_some _ (Heap.get?_push_of_some _ e))
      simp only [List.mem_cons, List.not_mem_nil, or_false, sz, not_or]
      exact ⟨Nat.ne_of_lt hb, Nat.ne_of_lt (Nat.lt_succ_of_lt hb)⟩
    · match r2, hr2 with
      | .error e, hr2 => exact hr2
      | .ok (.ret v), hr2 =>
        obtain ⟨rfl, ys, h', tk, rfl, f⟩ := hr2
        repeat (any_goals (first | assumption | wp_step))
        exact q _ _ _ f
/-- sorted of such a set -/
theorem sortedT {a : Addr} {l : List Str} {Q : Value → Shared → Prop} (R : TxR prog w s.heap a l) (hh : A.handled = none) (h64 : l.length < 64)
    (q : ∀ s' p (out : Array Value) (c : Nat) (ss : List Str), (∀ b o, s.heap.get? b = some o → s'.heap.get? b = some o) → s'.gens = s.gens → s'.os = s.os → s.heap.objs.size ≤ p → s'.heap.get? p = some (seqObj "list" out c) → StrsAre out.toList ss → ss.Perm l → sortedS ss = true → Q (.ref p) s') :
    wpAny (model prog w) A (call (.builtin "sorted") [.ref a]) Q E s := by
  obtain ⟨es, ep, t, ho, F, r, hl, pm⟩ := R.ex
  have hsz : es.size = l.length := F.sz
  refine Calls.call_function_entry kind_sorted plain_sorted entry_sorted (args_sorted1 _) ?_
  unfold Builtin.«sorted»
  refine wpAny_bind (m := checkCount "sorted" 1 1 _) (wpAny_pure ?_)
  refine wpAny_bind (collect_set (A := A.in1) hh ⟨_, ho, rfl, rfl⟩ F.fit (by show es.size < scanBound; unfold scanBound; omega) r hl fun s1 vs k1 hz g1 o1 pv => ?_)
  have hvl : vs.length = l.length := by rw [pv.length_eq, List.length_map, Array.length_toList]; exact hsz
  have hS : StrsAre vs (vs.map PyProof.Rows.strOf) := strsAre_map vs fun v hv => by
    obtain ⟨e, he, rfl⟩ := List.mem_map.mp (pv.mem_iff.mp hv)
    obtain ⟨⟨k, hk, _⟩, _⟩ := F.el e he
    obtain ⟨tk, hk⟩ := Value.isStrOf_shape hk
    exact ⟨k, tk, hk⟩
  have pk : (vs.map PyProof.Rows.strOf).Perm l := by
    have z := pv.map PyProof.Rows.strOf
    rw [List.map_map] at z
    exact z.trans pm
  refine wpAny_bind (wpAny_newList ?_ (by rw [hvl, sizeLine_eq]; omega))
  have hoL : (s1.heap.push (seqObj "list" vs.toArray 0)).get? s1.heap.objs.size = some (seqObj "list" vs.toArray 0) := Heap.get?_push_size _ rfl
  refine wpAny_bind (wpAny_holding (wpAny_call_entry slot_list_sort ⟨_, hoL, rfl⟩ entry_list_sort (list_sort_treeK strKind_oneLt hoL hS.keysOf (fun v₁ v₂ rest e => keyKind_strs (by rw [← e]; exact hS)) (by rw [hvl]; exact h64) fun st' a1 a2 => ⟨_, rfl, ?_⟩) (args_list_sort _)))
  obtain ⟨ss, b1, b2, b3⟩ := sorted_out_str hS a1 a2
  obtain ⟨c, hc⟩ := sortedHeap_at (vs := vs) (out := (arrOf st').map (·.2)) hoL
  refine wpAny_pure ⟨_, rfl, q _ s1.heap.objs.size _ c ss (fun b u e => ?_) g1 o1 hz hc b1 (b2.trans pk) b3⟩
  have lt := Heap.lt_size (k1 b u e)
  show (sortedHeap (s1.heap.push (seqObj "list" vs.toArray 0)) s1.heap.objs.size vs _).get? b = some u
  rw [sortedHeap_old (Nat.ne_of_lt lt) (by rw [size_push']; exact Nat.lt_succ_of_lt lt)]
  exact Heap.get?_push_of_some _ (k1 b u e)
end
end Kn.SetsT
namespace Kn
open PySem PySem.Spec PyProof.Rows L2 Evl SX
section
variable {X : Cx}
/-- sorted(set(xs)), xs a list of fewer than 64 texts -/
def tSortSetT (K : PySem.W.Frag) (ta : TE) : TE := fun σ H Q => ta σ H fun x H1 => ∃ (l : Addr) (xs : List Str), x = .ref l ∧ SqL K H1 l (xs.map V.str) ∧ xs.length < 64 ∧
  ∀ (ys : List Str) (p : Addr), ys.Nodup → (∀ z, z ∈ ys ↔ z ∈ xs) → ys.length ≤ xs.length → sortedS ys = true → H1 p = none → Q (.ref p) (L2.upd H1 p (.lst (ys.map V.str)))
theorem pe_sortSetT {a : Expr} {ta : TE} {p p2 q pos : Pos} (hc : X.calm = true) (hg : Gl X "sorted") (hm : X.mg "sorted" = none) (hg2 : Gl X "set") (hm2 : X.mg "set" = none) (ha : PE X a ta)
    (na : starEach [a] X.env = (false, eval a X.env) :: starEach [] X.env := by rfl) : PE X (.Call (.Name "sorted" p) [.Call (.Name "set" p2) [a] [] q] [] pos) (tSortSetT X.K ta) := ⟨fun pins s σ H Q I h => by
  refine Call_ (ld_blt I hg hm boot_sorted (callWith_builtin1 (args_cons ?_ rfl) rfl rfl))
  refine Call_ (ld_blt I hg2 hm2 boot_set (callWith_type1 (args_cons (thn (ha.run pins s σ H _ I h) fun v s1 z => args_nil ?_) na) na rfl))
  obtain ⟨x, H1, I1, r1, l, xs, rfl, hq, few, q1⟩ := z
  cases r1
  obtain ⟨us, r, pl, _⟩ := I1.list hq
  obtain ⟨hl, at'⟩ := texts_at r
  have hsz : xs.length = us.toArray.size := by rw [List.size_toArray]; exact hl
  refine SetsT.makeT (I1.ok.hd hc) pl.isList (fun i v e => at' i v (by simpa using e)) hsz (by unfold scanBound; omega) fun ls h' tk f => args_nil ?_
  obtain ⟨R, ⟨nd, m, le⟩, hk⟩ := f
  have I2 : Inv X pins σ H1 { s1 with heap := h', toks := tk } := I1.kept fun b o e => hk b o (Heap.lt_size e) e
  have R2 : SetsT.TxR X.prog X.w ({ s1 with heap := h', toks := tk } : Shared).heap s1.heap.objs.size ls := R
  generalize ({ s1 with heap := h', toks := tk } : Shared) = s2 at I2 R2 ⊢
  refine SetsT.sortedT R2 (I2.ok.hd hc) (by omega) fun s' p out c ss k g o hp hget hS pm hs => ?_
  have hlen : (ss.map V.str).length ≤ sizeLine := by rw [List.length_map, pm.length_eq, sizeLine_eq]; omega
  have hn : H1 p = none := I2.hok.fresh hp
  have J : Inv X pins σ (L2.upd H1 p (.lst (ss.map V.str))) { s2 with heap := s'.heap, gens := s'.gens, drawn := s'.drawn, toks := s'.toks } :=
    I2.call (ch := []) (Un.laid k hp hn) (I2.hok.laid k hp ⟨hlen, out.toList, c, vals_of_strs hS, hget⟩) (by rw [g]; exact I2.bare) (fun _ z => nomatch z)
  have e : s' = { s2 with heap := s'.heap, gens := s'.gens, drawn := s'.drawn, toks := s'.toks } := by
    cases s'
    cases s2
    cases o
    rfl
  rw [e]
  exact ⟨.ref p, _, J, rfl, q1 ss p (pm.nodup_iff.mpr nd) (fun z => by rw [pm.mem_iff, m z, List.take_length]) (by rw [pm.length_eq]; exact le) hs hn⟩⟩
end
end Kn

/-! Kg: dicts with text keys that may be locked, sorted texts, pop, dict comprehensions, graphs. -/
namespace Kn
open PySem PySem.Spec PyProof.Rows L2 Evl SX
/-! ### sorted texts -/
theorem pw_rising : ∀ (r : List Str) (x : Str), List.Pairwise leS (x :: r) → risingS x r = true
  | [], _, _ => rfl
  | y :: r, x, h => by
    obtain ⟨h1, h2⟩ := List.pairwise_cons.mp h
    show (!ltCps y.cps.toList x.cps.toList && risingS y r) = true
    rw [pw_rising r y h2, Bool.and_true, PyProof.Rows.ltCps_eq]
    have hle : x.cps.toList ≤ y.cps.toList := h1 y List.mem_cons_self
    rw [Bool.not_eq_true', decide_eq_false_iff_not]
    exact fun z => hle z
theorem pw_sorted {l : List Str} (h : List.Pairwise leS l) : sortedS l = true := by
  cases l with
  | nil => rfl
  | cons x r => exact pw_rising r x h
/-- a rising list without repetitions of just these texts -/
structure Srt (ys : List Str) (p : Str → Prop) : Prop where
  s : sortedS ys = true
  n : ys.Nodup
  m : ∀ x, x ∈ ys ↔ p x
theorem nodup_perm {α : Type} [DecidableEq α] {l m : List α} (h1 : l.Nodup) (h2 : m.Nodup) (h : ∀ x, x ∈ l ↔ x ∈ m) : l.Perm m :=
  (List.perm_ext_iff_of_nodup h1 h2).mpr h
theorem Srt.uniq {ys zs : List Str} {p q : Str → Prop} (a : Srt ys p) (b : Srt zs q) (h : ∀ x, p x ↔ q x) : ys = zs :=
  sorted_uniq a.s b.s (nodup_perm a.n b.n fun x => ((a.m x).trans (h x)).trans (b.m x).symm)
theorem Srt.filter {ys : List Str} {p : Str → Prop} (a : Srt ys p) (f : Str → Bool) : Srt (ys.filter f) (fun x => p x ∧ f x = true) :=
  ⟨pw_sorted ((sorted_pw a.s).sublist List.filter_sublist), a.n.sublist List.filter_sublist, fun x => by rw [List.mem_filter, a.m x]⟩
theorem Srt.of {ks ys : List Str} {p : Str → Prop} (hn : ks.Nodup) (hm : ∀ x, x ∈ ks ↔ p x) (h : ys.Perm ks) (hs : sortedS ys = true) : Srt ys p :=
  ⟨hs, h.nodup_iff.mpr hn, fun x => h.mem_iff.trans (hm x)⟩
theorem leS_total (a b : Str) : leS a b ∨ leS b a := List.le_total _ _
theorem srt_ex (ks : List Str) : ∃ ys : List Str, ys.Perm ks ∧ sortedS ys = true := by
  have hp := List.pairwise_mergeSort (le := fun a b : Str => decide (a.cps.toList ≤ b.cps.toList)) (fun a b c h1 h2 => decide_eq_true (List.le_trans (of_decide_eq_true h1) (of_decide_eq_true h2))) (fun a b => by
      rcases leS_total a b with h | h
      · have h' : a.cps.toList ≤ b.cps.toList := h
        rw [Bool.or_eq_true]
        exact .inl (decide_eq_true h')
      · have h' : b.cps.toList ≤ a.cps.toList := h
        rw [Bool.or_eq_true]
        exact .inr (decide_eq_true h')) ks
  exact ⟨_, List.mergeSort_perm _ _, pw_sorted (hp.imp fun {a b} h => of_decide_eq_true (p := a.cps.toList ≤ b.cps.toList) h)⟩
noncomputable def srtS (ks : List Str) : List Str := Classical.choose (srt_ex ks)
theorem srt_perm (ks : List Str) : (srtS ks).Perm ks := (Classical.choose_spec (srt_ex ks)).1
theorem srt_s (ks : List Str) : sortedS (srtS ks) = true := (Classical.choose_spec (srt_ex ks)).2
theorem srt_eq {ks ys : List Str} (h : ys.Perm ks) (hs : sortedS ys = true) : ys = srtS ks := sorted_uniq hs (srt_s ks) (h.trans (srt_perm ks).symm)
theorem Srt.srt {ks : List Str} {p : Str → Prop} (hn : ks.Nodup) (hm : ∀ x, x ∈ ks ↔ p x) : Srt (srtS ks) p := Srt.of hn hm (srt_perm ks) (srt_s ks)
theorem Srt.head {x : Str} {r : List Str} {p : Str → Prop} (a : Srt (x :: r) p) : p x := (a.m x).mp List.mem_cons_self

/-! ### dicts, locked or not -/
section
variable {K : PySem.W.Frag} {σ : L2.St} {H H' : Hp} {ta tb td ty te tc tv tx tf : TE} {t u : TT} {x y z v : V} {D : Ends} {tu tw tz : TS} {d p : Addr} {kvs : List (Key × V)} {k : Str}
theorem dget_rd (h : Rd H d (.dK kvs)) : DGet H d (.str k) (valV kvs (Sum.inr k)) := .inl ⟨kvs, Sum.inr k, h, rfl, rfl⟩
theorem ev_dgetS (h1 : Ev td σ H (.ref d)) (h2 : Ev ty σ H (.str k)) (hd : Rd H d (.dK kvs)) (hv : valV kvs (Sum.inr k) = some v) : Ev (tDGet td ty) σ H v := fun H1 e Q q =>
  h1 H1 e _ fun H2 e2 => h2 H2 (e.trans e2) _ fun H3 e3 => ⟨d, v, rfl, by
    have g := dget_rd (k := k) (ex_rd ((e.trans e2).trans e3) hd)
    rw [hv] at g
    exact g, q H3 (e2.trans e3)⟩
/-- d.get(k, ()) where k is there -/
theorem ev_dget2U {xs : List V} (h1 : Ev td σ H (.ref d)) (h2 : Ev ty σ H (.str k)) (hx : EvU tx σ H xs) (hd : Rd H d (.dK kvs)) (hv : valV kvs (Sum.inr k) = some v) : Ev (tDGet2 td ty tx) σ H v := fun H1 e Q q =>
  h1 H1 e _ fun H2 e2 => ⟨d, rfl, .inl ⟨kvs, ex_rd (e.trans e2) hd⟩, h2 H2 (e.trans e2) _ fun H3 e3 => hx H3 ((e.trans e2).trans e3) _ fun p H4 _ e4 _ => ⟨some v, by
    have g := dget_rd (k := k) (ex_rd (((e.trans e2).trans e3).trans e4) hd)
    rw [hv] at g
    exact g, q H4 ((e2.trans e3).trans e4)⟩⟩
theorem ev_dinS (h2 : Ev ty σ H (.str k)) (h1 : Ev td σ H (.ref d)) (hd : Rd H d (.dK kvs)) : Ev (tDIn ty td) σ H (.bl (valV kvs (Sum.inr k)).isSome) := fun H1 e Q q =>
  h2 H1 e _ fun H2 e2 => h1 H2 (e.trans e2) _ fun H3 e3 => ⟨d, _, rfl, dget_rd (ex_rd ((e.trans e2).trans e3) hd), q H3 (e2.trans e3)⟩
theorem ev_dninS (h2 : Ev ty σ H (.str k)) (h1 : Ev td σ H (.ref d)) (hd : Rd H d (.dK kvs)) : Ev (tDNotIn ty td) σ H (.bl (!(valV kvs (Sum.inr k)).isSome)) := fun H1 e Q q =>
  h2 H1 e _ fun H2 e2 => h1 H2 (e.trans e2) _ fun H3 e3 => ⟨d, _, rfl, dget_rd (ex_rd ((e.trans e2).trans e3) hd), q H3 (e2.trans e3)⟩
theorem s_dputS (hv : Ev tv σ H v) (h1 : ∀ H1, Ex H H1 → Ev td σ H1 (.ref d)) (h2 : ∀ H1, Ex H H1 → Ev ty σ H1 (.str k)) (hd : H d = some (.dK kvs)) (hl : kvs.length < 100000) (q : ∀ H1, Ex H H1 → D.nx σ (upd H1 d (.dK (putK kvs (Sum.inr k) v)))) : sDPut td ty tv D σ H :=
  hv H (Ex.refl H) _ fun H1 e1 => h1 H1 e1 H1 (Ex.refl H1) _ fun H2 e2 => h2 H2 (e1.trans e2) H2 (Ex.refl H2) _ fun H3 e3 => ⟨d, _, rfl, DPut.k (k := (Sum.inr k : Key)) (((e1.trans e2).trans e3) _ _ hd) (sz_lt hl), q H3 ((e1.trans e2).trans e3)⟩
theorem q_dputS (hv : Ev tv σ H v) (h1 : ∀ H1, Ex H H1 → Ev td σ H1 (.ref d)) (h2 : ∀ H1, Ex H H1 → Ev ty σ H1 (.str k)) (hd : H d = some (.dK kvs)) (hl : kvs.length < 100000) (q : ∀ H1, Ex H H1 → tz D σ (upd H1 d (.dK (putK kvs (Sum.inr k) v)))) : tSeq (sDPut td ty tv) tz D σ H :=
  s_dputS (D := { D with nx := tz D }) hv h1 h2 hd hl q
/-- d[k] = a new list -/
theorem s_dputL {xs : List V} (hv : EvL tv σ H xs) (h1 : ∀ H1, Ex H H1 → Ev td σ H1 (.ref d)) (h2 : ∀ H1, Ex H H1 → Ev ty σ H1 (.str k)) (hd : H d = some (.dK kvs)) (hl : kvs.length < 100000)
    (q : ∀ r H1, H r = none → Ex H H1 → H1 r = some (.lst xs) → D.nx σ (upd H1 d (.dK (putK kvs (Sum.inr k) (.ref r))))) : sDPut td ty tv D σ H :=
  hv H (Ex.refl H) _ fun r H1 nr e1 hr => h1 H1 e1 H1 (Ex.refl H1) _ fun H2 e2 => h2 H2 (e1.trans e2) H2 (Ex.refl H2) _ fun H3 e3 => ⟨d, _, rfl, DPut.k (k := (Sum.inr k : Key)) (((e1.trans e2).trans e3) _ _ hd) (sz_lt hl), q r H3 nr ((e1.trans e2).trans e3) (e3 _ _ (e2 _ _ hr))⟩
theorem q_dputL {xs : List V} (hv : EvL tv σ H xs) (h1 : ∀ H1, Ex H H1 → Ev td σ H1 (.ref d)) (h2 : ∀ H1, Ex H H1 → Ev ty σ H1 (.str k)) (hd : H d = some (.dK kvs)) (hl : kvs.length < 100000)
    (q : ∀ r H1, H r = none → Ex H H1 → H1 r = some (.lst xs) → tz D σ (upd H1 d (.dK (putK kvs (Sum.inr k) (.ref r))))) : tSeq (sDPut td ty tv) tz D σ H :=
  s_dputL (D := { D with nx := tz D }) hv h1 h2 hd hl q
/-- x = l.pop() -/
theorem q_pop {i : Nat} {l : Addr} {xs : List V} (ha : Ev ta σ H (.ref l)) (hl : H l = some (.lst xs)) (hx : xs[xs.length - 1]? = some v) (k : ∀ H1, Ex H H1 → tz D (σ.set i (some v)) (upd H1 l (.lst xs.dropLast))) :
    tSeq (tAsg (tBM0 K "list" rPop ta) (gName i)) tz D σ H := ha H (Ex.refl H) _ fun H1 e1 => ⟨Or.inl ⟨rfl, xs, sq_of (e1 _ _ hl)⟩, l, xs, v, rfl, rfl, e1 _ _ hl, hx, k H1 e1⟩
/-- sorted(d), sorted(l) of any size, as a new list -/
theorem el_sortedD {ks : List Str} (ha : Ev ta σ H (.ref d)) (hd : Rd H d (.dK kvs)) (hk : kvs.map (·.1) = ks.map Sum.inr) (hn : ks.length ≤ 100000) : EvL (tCB (rSortDA K) (tCons ta tNil)) σ H ((srtS ks).map V.str) := fun H1 e Q q =>
  ha H1 e _ fun H2 e2 => ⟨d, kvs, ks, rfl, ex_rd (e.trans e2) hd, hk, hn, fun ys p hp hs hnew => by
    rw [srt_eq hp hs]
    exact q p _ (fresh_back e2 hnew) (e2.trans (Ex.new hnew)) upd_same⟩
def rSortL (K : PySem.W.Frag) : List V → Hp → VK → Prop := fun vs H Q => ∃ (a : Addr) (xs : List Str), vs = [V.ref a] ∧ SqL K H a (xs.map V.str) ∧ xs.length < 64 ∧ ∀ (ys : List Str) (p : Addr), ys.Perm xs → sortedS ys = true → H p = none → Q (.ref p) (upd H p (.lst (ys.map V.str)))
theorem cr_sortL {X : Cx} : CallR X (.builtin "sorted") (rSortL X.K) := cr_sortedS
theorem el_sortedL {xs : List Str} (ha : Ev ta σ H (.ref p)) (hp : SqL K H p (xs.map V.str)) (hn : xs.length < 64) : EvL (tCB (rSortL K) (tCons ta tNil)) σ H ((srtS xs).map V.str) := fun H1 e Q q =>
  ha H1 e _ fun H2 e2 => ⟨p, xs, rfl, ex_l (e.trans e2) hp, hn, fun ys p hp hs hnew => by
    rw [srt_eq hp hs]
    exact q p _ (fresh_back e2 hnew) (e2.trans (Ex.new hnew)) upd_same⟩
end
/-! ### comprehensions whose elements are new objects -/
/-- H5 has what H4 has of the base H, and what is new behind H1 -/
def Sub5 (H H1 H4 H5 : Hp) : Prop := ∀ a o, H4 a = some o → (H a = some o ∨ H1 a = none) → H5 a = some o
def EvF (te : TE) (σ : L2.St) (B H : Hp) (P : V → Hp → Prop) : Prop := ∀ H1, Ex H H1 → ∀ Q : VK, (∀ v H4, Ex H1 H4 → (∀ H5, Sub5 B H1 H4 H5 → P v H5) → Q v H4) → te σ H1 Q
/-- the heap without d -/
def less (H : Hp) (d : Addr) : Hp := fun a => if a = d then none else H a
theorem less_ne {H : Hp} {d a : Addr} (h : a ≠ d) : less H d a = H a := if_neg h
theorem less_same {H : Hp} {d : Addr} : less H d d = none := if_pos rfl
theorem less_ex {H : Hp} {d : Addr} : Ex (less H d) H := fun a o h => by
  by_cases ha : a = d
  · rw [ha, less_same] at h
    cases h
  · rw [less_ne ha] at h
    exact h
theorem less_upd {H : Hp} {d : Addr} {o : HO} : less (upd H d o) d = less H d := funext fun a => by
  by_cases ha : a = d
  · rw [ha, less_same, less_same]
  · rw [less_ne ha, less_ne ha, upd_ne ha]
theorem less_mono {H H1 : Hp} {d : Addr} (e : Ex H H1) : Ex (less H d) (less H1 d) := fun a o h => by
  by_cases ha : a = d
  · rw [ha, less_same] at h
    cases h
  · rw [less_ne ha] at h ⊢
    exact e _ _ h
def Mo (P : Nat → V → Hp → Prop) : Prop := ∀ i v H1 H2, Ex H1 H2 → P i v H1 → P i v H2
section
variable {K : PySem.W.Frag} {σ : L2.St} {H H' : Hp} {ta tb td ty te tc tv tx tf tk tl : TE} {D : Ends} {d p : Addr} {kvs : List (Key × V)} {P : Nat → V → Hp → Prop}
/-- [e for x in d]: d locked -/
theorem lc_keysF {j : Nat} {vs : List Nat} (hP : Mo P) (h1 : ∀ H1, Ev td σ H1 (.ref d)) (hd : H d = some (.dK kvs)) (hz : kvs.length ≤ 40000) (hw : ∀ x, wipe ((wipe σ vs).set j (some x)) vs = wipe σ vs)
    (he : ∀ (i : Nat) (kv : Key × V) (H1 : Hp) (od : Obj), Ex (less H d) H1 → H1 d = some (.frz od (.dK kvs)) → kvs[i]? = some kv → EvF te ((wipe σ vs).set j (some (kV kv.1))) (less H d) H1 (P i)) :
    ∀ H0, Ex H H0 → ∀ Q : VK, (∀ p H2 (ys : List V), H0 p = none → Ex H0 H2 → H2 p = some (.lst ys) → ys.length = kvs.length → (∀ i v, ys[i]? = some v → P i v (less H2 p)) → Q (.ref p) H2) → tLockE (tLc (iKeys td) (gName j) tYes te vs) σ H0 Q := by
  intro H0 e0 Q k
  have hd0 := e0 _ _ hd
  refine ⟨d, .dK kvs, hd0, trivial, fun od => ?_⟩
  refine h1 _ _ (Ex.refl _) _ fun H1 e1 => ⟨d, od, rfl, .inl ⟨kvs, e1 _ _ upd_same, fun Dl hD => ?_⟩⟩
  have dn : H1 d = some (.frz od (.dK kvs)) := e1 _ _ upd_same
  have ne : Dl ≠ d := fun z => by rw [z] at hD; rw [hD] at dn; cases dn
  have exb : Ex (less H d) H1 := fun a o h => by
    by_cases ha : a = d
    · rw [ha, less_same] at h
      cases h
    · rw [less_ne ha] at h
      exact e1 _ _ (by rw [upd_ne ha]; exact e0 _ _ h)
  refine lc_it walk_keys (fun i H' => Ex H1 H' ∧ ∃ ys : List V, H' Dl = some (.lst ys) ∧ ys.length = i ∧ ∀ j v, ys[j]? = some v → P j v (less (less H' Dl) d)) ⟨Ex.new hD, [], upd_same, rfl, fun j v h => by simp at h⟩ (fun i H2 _ q => q.1 _ _ dn) (fun i x H2 H3 hi q y => ?_) (fun H2 q => ?_)
  · obtain ⟨rfl, ky, vv, hy, rfl⟩ := y
    obtain ⟨e2, ys, hl, hlen, hp⟩ := q
    refine ⟨hw _, ?_⟩
    show te _ _ fun y H4 => ∃ acc, _
    refine he i (ky, vv) H1 od exb dn hy _ e2 _ fun v H4 e4 hv => ?_
    have hl4 : H4 Dl = some (.lst ys) := e4 _ _ hl
    refine ⟨ys, hl4, sz_lt (by omega), Ex.mut (e2.trans e4) hD, ys ++ [v], upd_same, by rw [List.length_append]; show ys.length + 1 = i + 1; omega, fun j w hj => ?_⟩
    rw [less_upd]
    by_cases hlt : j < ys.length
    · rw [List.getElem?_append_left hlt] at hj
      exact hP _ _ _ _ (less_mono (less_mono e4)) (hp j w hj)
    · have ej : j = ys.length := by
        have := (List.getElem?_eq_some_iff.mp hj).1
        rw [List.length_append] at this
        have : j < ys.length + 1 := this
        omega
      subst ej
      rw [List.getElem?_append_right (Nat.le_refl _), Nat.sub_self] at hj
      cases Option.some.inj (show some v = some w from hj)
      rw [hlen]
      refine hv _ fun a o h4 hc => ?_
      have ad : a ≠ d := fun z => by
        subst z
        rcases hc with hc | hc
        · rw [less_same] at hc
          cases hc
        · rw [e2 _ _ dn] at hc
          cases hc
      have aD : a ≠ Dl := fun z => by
        subst z
        rcases hc with hc | hc
        · have := exb _ _ hc
          rw [hD] at this
          cases this
        · rw [hl] at hc
          cases hc
      rw [less_ne ad, less_ne aD]
      exact h4
  · obtain ⟨e2, ys, hl, hlen, hp⟩ := q
    have hd2 : H2 d = some (.frz od (.dK kvs)) := e2 _ _ dn
    refine ⟨hd2, k Dl _ ys ?_ ?_ ?_ hlen fun i v hi => hP _ _ _ _ ?_ (hp i v hi)⟩
    · cases h : H0 Dl with
      | none => rfl
      | some o =>
        have := e1 _ _ (by rw [upd_ne ne]; exact h)
        rw [hD] at this
        cases this
    · exact fun a o h => by
        by_cases ha : a = d
        · rw [ha] at h ⊢
          rw [upd_same, ← hd0, h]
        · rw [upd_ne ha]
          exact e2 _ _ (e1 _ _ (by rw [upd_ne ha]; exact h))
    · rw [upd_ne ne]
      exact hl
    · intro a o h
      by_cases ha : a = d
      · rw [ha, less_same] at h
        cases h
      · rw [less_ne ha] at h
        by_cases hb : a = Dl
        · rw [hb, less_same] at h
          cases h
        · rw [less_ne hb] at h ⊢
          rw [upd_ne ha]
          exact h
/-- {x: e for x in d}: d locked -/
theorem dc_keysF {j : Nat} {vs : List Nat} (hP : Mo P) (h1 : ∀ H1, Ev td σ H1 (.ref d)) (hd : H d = some (.dK kvs)) (hz : kvs.length ≤ 40000) (hn : (kvs.map (·.1)).Nodup) (hw : ∀ x, wipe ((wipe σ vs).set j (some x)) vs = wipe σ vs)
    (hj : ∀ x : V, ((wipe σ vs).set j (some x))[j]? = some (some x))
    (he : ∀ (i : Nat) (kv : Key × V) (H1 : Hp) (od : Obj), Ex (less H d) H1 → H1 d = some (.frz od (.dK kvs)) → kvs[i]? = some kv → EvF te ((wipe σ vs).set j (some (kV kv.1))) (less H d) H1 (P i)) :
    ∀ H0, Ex H H0 → ∀ Q : VK, (∀ p H2 (ls : List (Key × V)), H0 p = none → Ex H0 H2 → H2 p = some (.dK ls) → ls.map (·.1) = kvs.map (·.1) → (∀ i kv, ls[i]? = some kv → P i kv.2 (less H2 p)) → Q (.ref p) H2) → tLockE (tDc (iKeys td) (gName j) tYes (tVar j) te vs) σ H0 Q := by
  intro H0 e0 Q k
  have hd0 := e0 _ _ hd
  refine ⟨d, .dK kvs, hd0, trivial, fun od => ?_⟩
  refine h1 _ _ (Ex.refl _) _ fun H1 e1 => ⟨d, od, rfl, .inl ⟨kvs, e1 _ _ upd_same, fun Dl hD => ?_⟩⟩
  have dn : H1 d = some (.frz od (.dK kvs)) := e1 _ _ upd_same
  have ne : Dl ≠ d := fun z => by rw [z] at hD; rw [hD] at dn; cases dn
  have exb : Ex (less H d) H1 := fun a o h => by
    by_cases ha : a = d
    · rw [ha, less_same] at h
      cases h
    · rw [less_ne ha] at h
      exact e1 _ _ (by rw [upd_ne ha]; exact e0 _ _ h)
  let Pv : Nat → Hp → Prop := fun i H' => Ex H1 H' ∧ ∃ ls : List (Key × V), H' Dl = some (.dK ls) ∧ ls.map (·.1) = (kvs.take i).map (·.1) ∧ ∀ j kv, ls[j]? = some kv → P j kv.2 (less (less H' Dl) d)
  have h0 : Pv 0 (upd H1 Dl (.dK [])) := ⟨Ex.new hD, [], upd_same, rfl, fun j v h => by simp at h⟩
  have hs : ∀ i (k : Key) (v : V) H2, kvs[i]? = some (k, v) → Pv i H2 → te ((wipe σ vs).set j (some (kV k))) H2 fun z H5 => ∃ ls k', kV k = kV k' ∧ H5 Dl = some (.dK ls) ∧ ls.length < sizeLine ∧ Pv (i + 1) (upd H5 Dl (.dK (putK ls k' z))) := fun i ky vv H2 hy q => by
    obtain ⟨e2, ls, hl, hk, hp⟩ := q
    have hi : i < kvs.length := (List.getElem?_eq_some_iff.mp hy).1
    have hlen : ls.length = i := by
      have z := congrArg List.length hk
      rw [List.length_map, List.length_map, List.length_take, Nat.min_eq_left (Nat.le_of_lt hi)] at z
      exact z
    refine he i (ky, vv) H1 od exb dn hy _ e2 _ fun v H4 e4 hv => ?_
    have hl4 : H4 Dl = some (.dK ls) := e4 _ _ hl
    have hnk : ky ∉ ls.map (·.1) := by
      rw [hk]
      intro hm
      obtain ⟨kv, hkv, e⟩ := List.mem_map.mp hm
      obtain ⟨m, hm1, hm2⟩ := List.mem_iff_getElem.mp hkv
      have hmi : m < i := by
        rw [List.length_take] at hm1
        omega
      have hget : kvs[m]? = some kv := by
        rw [← hm2, List.getElem_take, List.getElem?_eq_getElem (by omega)]
      have h1 : (kvs.map (·.1))[m]? = some ky := by rw [List.getElem?_map, hget, ← e]; rfl
      have h2 : (kvs.map (·.1))[i]? = some ky := by rw [List.getElem?_map, hy]; rfl
      have := (List.getElem?_inj (by rw [List.length_map]; omega) hn).mp (h1.trans h2.symm)
      omega
    have hput : putK ls ky v = ls ++ [(ky, v)] := putK_new v (by
      cases hv' : valV ls ky with
      | none => rfl
      | some w =>
        exfalso
        apply hnk
        unfold valV at hv'
        cases hf : ls.find? fun kv => decide (kv.1 = ky) with
        | none => rw [hf] at hv'; cases hv'
        | some kv => exact List.mem_map.mpr ⟨kv, List.mem_of_find?_eq_some hf, of_decide_eq_true (List.find?_some (p := fun kv : Key × V => decide (kv.1 = ky)) hf)⟩)
    refine ⟨ls, ky, rfl, hl4, sz_lt (by omega), Ex.mut (e2.trans e4) hD, ls ++ [(ky, v)], by rw [hput]; exact upd_same, ?_, fun j w hj => ?_⟩
    · rw [List.map_append, hk, List.take_succ, hy, List.map_append]
      rfl
    rw [less_upd]
    by_cases hlt : j < ls.length
    · rw [List.getElem?_append_left hlt] at hj
      exact hP _ _ _ _ (less_mono (less_mono e4)) (hp j w hj)
    · have ej : j = ls.length := by
        have := (List.getElem?_eq_some_iff.mp hj).1
        rw [List.length_append] at this
        have : j < ls.length + 1 := this
        omega
      subst ej
      rw [List.getElem?_append_right (Nat.le_refl _), Nat.sub_self] at hj
      cases Option.some.inj (show some (ky, v) = some w from hj)
      rw [hlen]
      refine hv _ fun a o h4 hc => ?_
      have ad : a ≠ d := fun z => by
        subst z
        rcases hc with hc | hc
        · rw [less_same] at hc
          cases hc
        · rw [e2 _ _ dn] at hc
          cases hc
      have aD : a ≠ Dl := fun z => by
        subst z
        rcases hc with hc | hc
        · have := exb _ _ hc
          rw [hD] at this
          cases this
        · rw [hl] at hc
          cases hc
      rw [less_ne ad, less_ne aD]
      exact h4
  refine ⟨fun i m H => m = kvs.length - i ∧ i ≤ kvs.length ∧ Pv i H, ⟨kvs.length, by simp, Nat.zero_le _, h0⟩, ?_⟩
  rintro i m H2 ⟨rfl, hi, q⟩
  have dn2 : H2 d = some (.frz od (.dK kvs)) := q.1 _ _ dn
  by_cases hlt : i < kvs.length
  · refine .inr ⟨walk_keys.goes i H2 hlt dn2, Pv (i + 1), fun H' p' => ⟨kvs.length - (i + 1), by omega, rfl, hlt, p'⟩, fun x H' y => ?_⟩
    obtain ⟨rfl, ky, vv, hy, rfl⟩ := walk_keys.yields i H2 x H' hlt dn2 y
    refine ⟨hw _, ?_⟩
    exact ⟨kV ky, hj _, hs i ky vv _ hy q⟩
  · have e : i = kvs.length := by omega
    subst e
    refine .inl ⟨walk_keys.stops H2 dn2, ?_⟩
    obtain ⟨e2, ls, hl, hk, hp⟩ := q
    rw [List.take_length] at hk
    refine ⟨dn2, k Dl _ ls ?_ ?_ ?_ hk fun i v hi => hP _ _ _ _ ?_ (hp i v hi)⟩
    · cases h : H0 Dl with
      | none => rfl
      | some o =>
        have := e1 _ _ (by rw [upd_ne ne]; exact h)
        rw [hD] at this
        cases this
    · exact fun a o h => by
        by_cases ha : a = d
        · rw [ha] at h ⊢
          rw [upd_same, ← hd0, h]
        · rw [upd_ne ha]
          exact e2 _ _ (e1 _ _ (by rw [upd_ne ha]; exact h))
    · rw [upd_ne ne]
      exact hl
    · intro a o h
      by_cases ha : a = d
      · rw [ha, less_same] at h
        cases h
      · rw [less_ne ha] at h
        by_cases hb : a = Dl
        · rw [hb, less_same] at h
          cases h
        · rw [less_ne hb] at h ⊢
          rw [upd_ne ha]
          exact h
/-- [e for x in xs], xs a list told by its content -/
theorem lc_listF {j : Nat} {vs : List Nat} {Ps : List V → Prop} (hP : Mo P) (h : ∀ H1, Ex H H1 → ∀ Q : VK, (∀ p xs H2, Ps xs → Ex H1 H2 → SqL K H2 p xs → (∀ H3, Ex H2 H3 → SqL K H3 p xs) → Q (.ref p) H2) → tl σ H1 Q)
    (hw : ∀ x, wipe ((wipe σ vs).set j (some x)) vs = wipe σ vs) (he : ∀ (xs : List V) (i : Nat) (x : V) (H1 : Hp), Ps xs → xs.length ≤ 40000 ∧ (Ex H H1 → xs[i]? = some x → EvF te ((wipe σ vs).set j (some x)) H H1 (P i))) :
    ∀ H0, Ex H H0 → ∀ Q : VK, (∀ p H2 xs (ys : List V), Ps xs → H0 p = none → Ex H0 H2 → H2 p = some (.lst ys) → ys.length = xs.length → (∀ i v, ys[i]? = some v → P i v (less H2 p)) → Q (.ref p) H2) → tLc (iList K tl) (gName j) tYes te vs σ H0 Q := by
  intro H0 e0 Q k
  refine h H0 e0 _ fun a xs H1 hPs e1 hx hxm => ⟨a, rfl, ⟨xs, hx⟩, fun Dl hD => ?_⟩
  have hz : xs.length ≤ 40000 := (he xs 0 .non H1 hPs).1
  have exb : Ex H H1 := e0.trans e1
  refine lc_list (xs := xs) (fun i H' => Ex H1 H' ∧ ∃ ys : List V, H' Dl = some (.lst ys) ∧ ys.length = i ∧ ∀ j v, ys[j]? = some v → P j v (less H' Dl)) ⟨Ex.new hD, [], upd_same, rfl, fun j v h => by simp at h⟩ (fun i H' _ q => hxm _ q.1) (fun i x H3 hi q => ?_) (fun H2 q => ?_)
  · obtain ⟨e2, ys, hl, hlen, hp⟩ := q
    have hi' := (List.getElem?_eq_some_iff.mp hi).1
    refine ⟨hw _, ?_⟩
    show te _ _ fun y H4 => ∃ acc, _
    refine (he xs i x H1 hPs).2 exb hi _ e2 _ fun v H4 e4 hv => ?_
    have hl4 : H4 Dl = some (.lst ys) := e4 _ _ hl
    refine ⟨ys, hl4, sz_lt (by omega), Ex.mut (e2.trans e4) hD, ys ++ [v], upd_same, by rw [List.length_append]; show ys.length + 1 = i + 1; omega, fun j w hj => ?_⟩
    rw [less_upd]
    by_cases hlt : j < ys.length
    · rw [List.getElem?_append_left hlt] at hj
      exact hP _ _ _ _ (less_mono e4) (hp j w hj)
    · have ej : j = ys.length := by
        have := (List.getElem?_eq_some_iff.mp hj).1
        rw [List.length_append] at this
        have : j < ys.length + 1 := this
        omega
      subst ej
      rw [List.getElem?_append_right (Nat.le_refl _), Nat.sub_self] at hj
      cases Option.some.inj (show some v = some w from hj)
      rw [hlen]
      refine hv _ fun a o h4 hc => ?_
      have aD : a ≠ Dl := fun z => by
        subst z
        rcases hc with hc | hc
        · have := exb _ _ hc
          rw [hD] at this
          cases this
        · rw [hl] at hc
          cases hc
      rw [less_ne aD]
      exact h4
  · obtain ⟨e2, ys, hl, hlen, hp⟩ := q
    exact k Dl _ xs ys hPs (fresh_back e1 hD) (e1.trans e2) hl hlen hp
end
/-! ### dict(..) of a list of pairs -/
theorem merge_nodup : ∀ (more kvs : List (Key × V)), ((kvs ++ more).map (·.1)).Nodup → mergeK kvs more = kvs ++ more
  | [], kvs, _ => (List.append_nil kvs).symm
  | (k, v) :: r, kvs, h => by
    show mergeK (putK kvs k v) r = _
    have hk : k ∉ kvs.map (·.1) := fun hm => by
      rw [List.map_append, List.nodup_append] at h
      exact h.2.2 _ hm _ (List.mem_map_of_mem List.mem_cons_self) rfl
    have hput : putK kvs k v = kvs ++ [(k, v)] := putK_new v (by
      cases hv' : valV kvs k with
      | none => rfl
      | some w =>
        exfalso
        apply hk
        unfold valV at hv'
        cases hf : kvs.find? fun kv => decide (kv.1 = k) with
        | none => rw [hf] at hv'; cases hv'
        | some kv => exact List.mem_map.mpr ⟨kv, List.mem_of_find?_eq_some hf, of_decide_eq_true (List.find?_some (p := fun kv : Key × V => decide (kv.1 = k)) hf)⟩)
    rw [hput, merge_nodup r (kvs ++ [(k, v)]) (by rw [List.append_assoc]; exact h), List.append_assoc]
    rfl
theorem val_nodup {kvs : List (Key × V)} (hn : (kvs.map (·.1)).Nodup) {i : Nat} {k : Key} {v : V} (h : kvs[i]? = some (k, v)) : valV kvs k = some v := by
  induction kvs generalizing i with
  | nil => simp at h
  | cons x r ih =>
    cases i with
    | zero =>
      cases Option.some.inj (show some x = some (k, v) from by simpa using h)
      exact valV_pos rfl
    | succ i =>
      rw [List.map_cons, List.nodup_cons] at hn
      have h' : r[i]? = some (k, v) := by simpa using h
      rw [valV_neg (fun z => hn.1 (List.mem_map.mpr ⟨(k, v), List.mem_of_getElem? h', z.symm⟩))]
      exact ih hn.2 h'
/-- what stands at t is the pair (key, w) -/
def PairAt (key : Nat → Key) (R : Nat → V → Hp → Prop) (i : Nat) (v : V) (H : Hp) : Prop := ∃ t w, v = .ref t ∧ H t = some (.tup [kV (key i), w]) ∧ R i w H
theorem pairAt_mo {key : Nat → Key} {R : Nat → V → Hp → Prop} (h : Mo R) : Mo (PairAt key R) := fun i v H1 H2 e ⟨t, w, a, b, c⟩ => ⟨t, w, a, e _ _ b, h _ _ _ _ e c⟩
theorem pairs_of {key : Nat → Key} {R : Nat → V → Hp → Prop} {H : Hp} : ∀ (ys : List V) (m : Nat), (∀ i v, ys[i]? = some v → PairAt key R (m + i) v H) →
    ∃ (ps : List Addr) (kvs : List (Key × V)), ys = ps.map V.ref ∧ Paired (fun p (kv : Key × V) => H p = some (.tup [kV kv.1, kv.2])) ps kvs ∧ kvs.length = ys.length ∧ ∀ i kv, kvs[i]? = some kv → kv.1 = key (m + i) ∧ R (m + i) kv.2 H
  | [], _, _ => ⟨[], [], rfl, .nil, rfl, fun i kv h => by simp at h⟩
  | y :: r, m, h => by
    obtain ⟨t, w, rfl, ht, hw⟩ := h 0 y rfl
    obtain ⟨ps, kvs, h1, h2, h3, h4⟩ := pairs_of r (m + 1) fun i v hi => by
      have := h (i + 1) v (by simpa using hi)
      rw [show m + (i + 1) = m + 1 + i by omega] at this
      exact this
    refine ⟨t :: ps, (key (m + 0), w) :: kvs, by rw [h1]; rfl, .cons ht h2, by rw [List.length_cons, List.length_cons, h3], fun i kv hi => ?_⟩
    cases i with
    | zero =>
      cases Option.some.inj (show some _ = some kv from hi)
      exact ⟨rfl, hw⟩
    | succ i =>
      have := h4 i kv (by simpa using hi)
      rw [show m + 1 + i = m + (i + 1) by omega] at this
      exact this
theorem ev_dictF {K : PySem.W.Frag} {σ : L2.St} {H : Hp} {te : TE} {key : Nat → Key} {R : Nat → V → Hp → Prop} {Pc : Nat → Prop} (hR : Mo R)
    (h : ∀ H0, Ex H H0 → ∀ Q : VK, (∀ p H2 (ys : List V), Pc ys.length → H0 p = none → Ex H0 H2 → H2 p = some (.lst ys) → (∀ i v, ys[i]? = some v → PairAt key R i v (less H2 p)) → Q (.ref p) H2) → te σ H0 Q)
    (hn : ∀ n, Pc n → ((List.range n).map key).Nodup) :
    ∀ H0, Ex H H0 → ∀ Q : VK, (∀ p H2 (kvs : List (Key × V)), Pc kvs.length → H0 p = none → Ex H0 H2 → H2 p = some (.dK kvs) → (∀ i kv, kvs[i]? = some kv → kv.1 = key i ∧ R i kv.2 (less H2 p)) → Q (.ref p) H2) → tCB (rDictP K) (tCons te tNil) σ H0 Q := fun H0 e0 Q q =>
  h H0 e0 _ fun p H2 ys hc hp e2 hl hy => by
    obtain ⟨ps, kvs, h1, h2, h3, h4⟩ := pairs_of (m := 0) ys fun i v hi => by rw [Nat.zero_add]; exact hy i v hi
    refine ⟨p, ps, kvs, rfl, by rw [← h1]; exact sq_of hl, Paired.mapP h2 fun b kv hb => st_of (less_ex _ _ hb), fun r hr => ?_⟩
    have hk : kvs.map (·.1) = (List.range kvs.length).map key := List.ext_getElem? fun i => by
      rw [List.getElem?_map, List.getElem?_map]
      by_cases hi : i < kvs.length
      · rw [List.getElem?_range hi, List.getElem?_eq_getElem hi]
        have := (h4 i kvs[i] (List.getElem?_eq_getElem hi)).1
        rw [Nat.zero_add] at this
        exact congrArg some this
      · rw [List.getElem?_eq_none (Nat.le_of_not_lt hi), List.getElem?_eq_none (by rw [List.length_range]; exact Nat.le_of_not_lt hi)]
        rfl
    have hm : mergeK [] kvs = kvs := merge_nodup kvs [] (by
      rw [List.nil_append, hk]
      exact hn _ (h3 ▸ hc))
    refine q r _ kvs (h3 ▸ hc) (fresh_back e2 hr) (e2.trans (Ex.new hr)) (by rw [hm]; exact upd_same) fun i kv hi => ?_
    have := h4 i kv hi
    rw [Nat.zero_add] at this
    refine ⟨this.1, hR _ _ _ _ (fun a o ha => ?_) this.2⟩
    have har : a ≠ r := fun z => by
      rw [z] at ha
      rw [less_ex _ _ ha] at hr
      cases hr
    rw [less_ne har, upd_ne har]
    exact less_ex _ _ ha
end Kn
/-! ### sorted(d, reverse=True), keys all texts -/
namespace SrtO
open PySem PyProof.Rows Srt
section
variable {prog : Program} {w : World} {A : Around} {E : Value → Shared → Prop} {s : Shared}
def svS : Value → PySem.Str
  | .str x _ => x
  | _ => PySem.Str.empty
def ltSvS (v u : Value) : Bool := decide ((svS v).cps.toList < (svS u).cps.toList)
theorem swo_svS : Swo ltSvS := by
  refine ⟨fun x y h => ?_, fun x y z h1 h2 => ?_⟩
  · have a := of_decide_eq_true (p := (svS x).cps.toList < (svS y).cps.toList) h
    exact decide_eq_false (p := (svS y).cps.toList < (svS x).cps.toList) (List.lt_asymm a)
  · have a : ¬ (svS y).cps.toList < (svS x).cps.toList := of_decide_eq_false (p := (svS y).cps.toList < (svS x).cps.toList) h1
    have b : ¬ (svS z).cps.toList < (svS y).cps.toList := of_decide_eq_false (p := (svS z).cps.toList < (svS y).cps.toList) h2
    have c : (svS x).cps.toList ≤ (svS z).cps.toList := List.le_trans (show (svS x).cps.toList ≤ (svS y).cps.toList from a) b
    exact decide_eq_false (p := (svS z).cps.toList < (svS x).cps.toList) c
theorem strs_memS : ∀ {vs : List Value} {ns : List PySem.Str}, StrsAre vs ns → ∀ v ∈ vs, ∃ i t, v = Value.str i t
  | _, _, .nil, v, h => absurd h (by simp)
  | _, _, .cons n t r, v, h => by
    rcases List.mem_cons.mp h with e | h
    · exact ⟨n, t, e⟩
    · exact strs_memS r v h
theorem strs_svS : ∀ {vs : List Value}, (∀ v ∈ vs, ∃ i t, v = Value.str i t) → StrsAre vs (vs.map svS)
  | [], _ => .nil
  | v :: vs, h => by
    obtain ⟨i, t, e⟩ := h v List.mem_cons_self
    subst e
    exact .cons i t (strs_svS fun u hu => h u (List.mem_cons_of_mem _ hu))
theorem svS_strs : ∀ {vs : List Value} {ns : List PySem.Str}, StrsAre vs ns → vs.map svS = ns
  | _, _, .nil => rfl
  | _, _, .cons n t r => congrArg (n :: ·) (svS_strs r)
theorem str_cmpS {vs : List Value} {ns : List PySem.Str} (hI : StrsAre vs ns) : Cmp prog w A s oneType' (fun p => p.1 ∈ vs) (lt2 ltSvS) := by
  intro p q hm hm'
  obtain ⟨a, t, e⟩ := strs_memS hI _ hm
  obtain ⟨b, u, e'⟩ := strs_memS hI _ hm'
  show wpAny (model prog w) A (keyLt' oneType' p.1 q.1) (fun r s' => s' = s ∧ r = ltSvS p.1 q.1) (fun _ _ => False) s
  rw [e, e', keyLt'_oneType]
  exact oneLt_str ⟨rfl, rfl⟩
theorem strs_sortableS {a : Addr} {vs : List Value} {ns : List PySem.Str} (hI : StrsAre vs ns) (h2 : 2 ≤ vs.length) : SortableO prog w A s a vs ltSvS := by
  intro h' _
  refine ⟨oneType', fun Q E hq => ?_, str_cmpS hI⟩
  match vs, hI, h2 with
  | v1 :: v2 :: rest, hI, _ =>
    rw [keyKind_strs hI]
    exact wpAny_pure hq
  | [], _, h => exact absurd h (by decide)
  | [v], _, h => exact absurd h (by simp)
end
end SrtO
namespace Kn
open PySem PySem.Spec PyProof.Rows L2 Evl SX
def rSortRevD (K : PySem.W.Frag) : List V → List V → Hp → VK → Prop := fun xs zs H Q => ∃ (a : Addr) (kvs : List (Key × V)) (ks : List Str), xs = [.ref a] ∧ zs = [.bl true] ∧ Rd H a (.dK kvs) ∧ kvs.map (·.1) = ks.map Sum.inr ∧ ks.length ≤ 100000 ∧ ∀ (ys : List Str) (p : Addr), ys.Perm ks → H p = none → Q (.ref p) (L2.upd H p (.lst (ys.map V.str)))
theorem cr_sortRevD {X : Cx} (hcalm : X.calm = true) : CallRK X (.builtin "sorted") [Str.ofString "reverse"] (rSortRevD X.K) := by
  intro pins s σ H xs zs us ws Q I r rz q
  obtain ⟨a, kvs, ks, rfl, rfl, hd, hks, h64, q⟩ := q
  obtain rfl := Vals.ref1 r
  obtain ⟨w1, rfl, e1⟩ := vals1 rz
  obtain rfl : w1 = Value.bool true := e1
  obtain ⟨z, lo, vs, rel, dd⟩ := dk_rd I.hok hd
  obtain ⟨ep, hat⟩ := dd.dictAt
  have hkeys : vs.map (·.1) = ks.map Sum.inr := rel.keys.symm.trans hks
  have hl : vs.length = ks.length := by
    have e := congrArg List.length hkeys
    rw [List.length_map, List.length_map] at e
    exact e
  have h16 : vs.length ≤ sizeLine := by rw [hl, sizeLine_eq]; omega
  refine PyProof.Rows.call_function_entry_kw PyProof.Rows.kind_sorted PyProof.Rows.plain_sorted PyProof.Rows.entry_sorted (PyProof.Rows.args_sorted_rev _ _) ?_
  unfold Builtin.«sorted»
  refine wpAny_bind (m := checkCount "sorted" 1 1 _) (wpAny_pure ?_)
  refine wpAny_bind (PySem.W.kdu_collect (A := X.A.in1) (PySem.W.kdl_dict (knd := mixKind X.prog X.w) (kvs := vs) (ep := ep) lo) (I.ok.hd hcalm) hat h16 fun h' tk acc hk hacc => ?_)
  have hal : acc.toList.length = ks.length := by rw [Array.length_toList, hacc.1, hl]
  have hS : StrsAre acc.toList ks := strs_at hal fun j v e => by
    obtain ⟨k, x, e1, e2⟩ := hacc.2 j v (by rw [← Array.getElem?_toList]; exact e)
    have e3 : (vs.map (·.1))[j]? = some k := by rw [List.getElem?_map, e1]; all_goals rfl
    rw [hkeys, List.getElem?_map] at e3
    cases e4 : ks[j]? with
    | none => rw [e4] at e3; cases e3
    | some y =>
      rw [e4] at e3
      have e5 : Sum.inr y = k := Option.some.inj e3
      subst e5
      obtain ⟨t, ev⟩ := Value.isStrOf_shape (x := y) (v := v) e2
      exact ⟨y, t, rfl, ev⟩
  have I1 : Inv X pins σ H { s with heap := h', toks := tk } := I.kept hk
  have hzl : acc.toList.length ≤ sizeLine := by rw [hal, sizeLine_eq]; omega
  refine wpAny_bind (wpAny_newList ?_ hzl)
  have hoL : (h'.push (seqObj "list" acc.toList.toArray 0)).get? h'.objs.size = some (seqObj "list" acc.toList.toArray 0) := Heap.get?_push_size _ rfl
  show wpAny _ _ _ _ _ { s with heap := h'.push (seqObj "list" acc.toList.toArray 0), toks := tk }
  refine wpAny_bind (wpAny_holding (PyProof.Rows.wpAny_call_entry_kw PyProof.Rows.slot_list_sort ⟨_, hoL, rfl⟩ PyProof.Rows.entry_list_sort ?_ (PyProof.Rows.args_list_sort_rev _ _)))
  refine SrtR.list_sort_ordR (s := { s with heap := h'.push (seqObj "list" acc.toList.toArray 0), toks := tk }) SrtO.swo_svS hoL hzl (fun h2 => SrtO.strs_sortableS hS h2) fun out hs hb => ⟨_, rfl, ?_⟩
  have hb' : SrtO.Stb SrtO.ltSvS out acc.toList.reverse := hb
  have hmem : ∀ v ∈ out, ∃ i t, v = Value.str i t := fun v hv => SrtO.strs_memS hS v (List.mem_reverse.mp (hb'.perm.mem_iff.mp hv))
  have hperm : (out.map SrtO.svS).Perm ks := by
    have q1 := (hb'.perm.trans (List.reverse_perm _)).map SrtO.svS
    rw [SrtO.svS_strs hS] at q1
    exact q1
  obtain ⟨e', he'⟩ := PyProof.Rows.sortedHeap_at (vs := acc.toList) (out := out.toArray.reverse) hoL
  have g1 : StrsAre out.reverse (out.reverse.map SrtO.svS) := SrtO.strs_svS fun v hv => hmem v (List.mem_reverse.mp hv)
  have g2 : (out.reverse.map SrtO.svS).Perm ks := ((List.reverse_perm out).map SrtO.svS).trans hperm
  have hlen : ((out.reverse.map SrtO.svS).map V.str).length ≤ sizeLine := by
    rw [List.length_map, g2.length_eq]
    exact sz_of h64
  refine wpAny_pure ⟨_, rfl, .ref h'.objs.size, upd H h'.objs.size (.lst ((out.reverse.map SrtO.svS).map V.str)), I1.laid (t' := tk) (fun b u e => ?_) (Nat.le_refl _)
    (show ObjOk X.prog X.w _ _ _ (.lst ((out.reverse.map SrtO.svS).map V.str)) from ⟨hlen, out.reverse, e', vals_of_strs g1, by
      have e6 : out.toArray.reverse = out.reverse.toArray := by simp
      rw [← e6]
      exact he'⟩), rfl, q _ _ g2 (I1.hok.fresh (Nat.le_refl _))⟩
  have hb : b < h'.objs.size := Heap.lt_size e
  rw [PyProof.Rows.sortedHeap_old (Nat.ne_of_lt hb) (by rw [size_push']; exact Nat.lt_succ_of_lt hb)]
  exact Heap.get?_push_of_some _ e
end Kn
/-! ### comprehensions over texts, with a test -/
namespace Kn
open PySem PySem.Spec PyProof.Rows L2 Evl SX
theorem given_take {ns : List Str} {p : Str → Bool} : ∀ n, n ≤ ns.length → given n (fun i => (ns[i]?.map p).getD false) (fun i => (ns[i]?.map V.str).getD .non) = ((ns.take n).filter p).map V.str
  | 0, _ => rfl
  | n + 1, h => by
    have hn : n < ns.length := h
    have e : ns[n]? = some ns[n] := List.getElem?_eq_getElem hn
    have ih := given_take (ns := ns) (p := p) n (Nat.le_of_lt hn)
    rw [List.take_succ, e]
    show _ = ((ns.take n ++ [ns[n]]).filter p).map V.str
    rw [List.filter_append, List.map_append, ← ih]
    cases hp : p ns[n] with
    | true =>
      rw [given_yes (by rw [e]; exact hp), e, List.filter_cons, hp]
      rfl
    | false =>
      rw [given_no (by rw [e]; exact hp), List.filter_cons, hp]
      exact (List.append_nil _).symm
theorem given_filter {ns : List Str} {p : Str → Bool} : given ns.length (fun i => (ns[i]?.map p).getD false) (fun i => (ns[i]?.map V.str).getD .non) = (ns.filter p).map V.str := by
  rw [given_take ns.length (Nat.le_refl _), List.take_length]
section
variable {K : PySem.W.Frag} {σ : L2.St} {H H' : Hp} {te tl : TE} {t : TT} {a : Addr} {j : Nat} {vs : List Nat}
theorem el_lcFN {ns : List Str} {p : Str → Bool} (h : EvL tl σ H (ns.map V.str)) (hz : ns.length ≤ 40000) (hw : ∀ x, wipe ((wipe σ vs).set j (some x)) vs = wipe σ vs)
    (ht : ∀ n ∈ ns, ∀ H1, Ex H H1 → EvT t ((wipe σ vs).set j (some (.str n))) H1 (p n)) (he : ∀ (n : Str) H1, Ev te ((wipe σ vs).set j (some (.str n))) H1 (.str n)) : EvL (tLc (iList K tl) (gName j) t te vs) σ H ((ns.filter p).map V.str) := by
  have k := el_lcNL (K := K) (te := te) (t := t) (j := j) (vs := vs) (fun i => (ns[i]?.map p).getD false) (fun i => (ns[i]?.map V.str).getD .non) h (by rw [List.length_map]; exact hz) hw (fun i x H1 e hi => by
    rw [List.getElem?_map] at hi
    cases hn : ns[i]? with
    | none => rw [hn] at hi; cases hi
    | some n =>
      rw [hn] at hi
      cases Option.some.inj hi
      exact ht n (List.mem_of_getElem? hn) H1 e) (fun i x H1 e hi _ => by
    rw [List.getElem?_map] at hi
    cases hn : ns[i]? with
    | none => rw [hn] at hi; cases hi
    | some n =>
      rw [hn] at hi
      cases Option.some.inj hi
      exact he n H1)
  rw [List.length_map, given_filter] at k
  exact k
theorem el_lcFL {ns : List Str} {p : Str → Bool} (h : Ev tl σ H (.ref a)) (hx : SqL K H a (ns.map V.str)) (hz : ns.length ≤ 40000) (hw : ∀ x, wipe ((wipe σ vs).set j (some x)) vs = wipe σ vs)
    (ht : ∀ n ∈ ns, ∀ H1, Ex H H1 → EvT t ((wipe σ vs).set j (some (.str n))) H1 (p n)) (he : ∀ (n : Str) H1, Ev te ((wipe σ vs).set j (some (.str n))) H1 (.str n)) : EvL (tLc (iList K tl) (gName j) t te vs) σ H ((ns.filter p).map V.str) := by
  have k := el_lcL (K := K) (te := te) (t := t) (j := j) (vs := vs) (fun i => (ns[i]?.map p).getD false) (fun i => (ns[i]?.map V.str).getD .non) h hx (by rw [List.length_map]; exact hz) hw (fun i x H1 e hi => by
    rw [List.getElem?_map] at hi
    cases hn : ns[i]? with
    | none => rw [hn] at hi; cases hi
    | some n =>
      rw [hn] at hi
      cases Option.some.inj hi
      exact ht n (List.mem_of_getElem? hn) H1 e) (fun i x H1 e hi _ => by
    rw [List.getElem?_map] at hi
    cases hn : ns[i]? with
    | none => rw [hn] at hi; cases hi
    | some n =>
      rw [hn] at hi
      cases Option.some.inj hi
      exact he n H1)
  rw [List.length_map, given_filter] at k
  exact k
theorem flat_strs (xs : List Str) : (xs.map V.str).all flatV = true := by
  rw [List.all_eq_true]
  intro v hv
  obtain ⟨x, _, rfl⟩ := List.mem_map.mp hv
  rfl
theorem inV_strs {x : Str} {xs : List Str} : inV (.str x) (xs.map V.str) = decide (x ∈ xs) := by
  unfold inV
  rw [Bool.eq_iff_iff, decide_eq_true_eq]
  simp only [List.any_map, List.any_eq_true, Function.comp]
  constructor
  · rintro ⟨y, hy, h⟩
    have e : y = x := by
      unfold eqV at h
      simpa using h
    rw [← e]
    exact hy
  · intro h
    exact ⟨x, h, by unfold eqV; simp⟩
/-- x in xs, a list of texts -/
theorem ev_inStrs {ta tb : TE} {x : Str} {xs : List Str} (ha : Ev ta σ H (.str x)) (hb : Ev tb σ H (.ref a)) (h : SqL K H a (xs.map V.str)) : Ev (tOp (rIn K false) ta tb) σ H (.bl (decide (x ∈ xs))) :=
  ev_is (ev_op ha hb (rv_isL h rfl (flat_strs xs))) (by rw [inV_strs])
theorem ev_ninStrs {ta tb : TE} {x : Str} {xs : List Str} (ha : Ev ta σ H (.str x)) (hb : Ev tb σ H (.ref a)) (h : SqL K H a (xs.map V.str)) : Ev (tOp (rIn K true) ta tb) σ H (.bl (!decide (x ∈ xs))) :=
  ev_is (ev_op ha hb (rv_niL h rfl (flat_strs xs))) (by rw [inV_strs])
end
end Kn
namespace Kn
open PySem PySem.Spec PyProof.Rows L2 Evl SX
def rLenDR : List V → Hp → VK → Prop := fun xs H Q => ∃ d kvs, xs = [.ref d] ∧ Rd H d (.dK kvs) ∧ Q (.int kvs.length) H
theorem cr_lenDR {X : Cx} : CallR X (.builtin "len") rLenDR := by
  intro pins s σ H xs us Q I r h
  obtain ⟨a, kvs, rfl, ha, q⟩ := h
  obtain ⟨u, rfl, ru⟩ := vals1 r
  cases ru
  exact d_len I ha fun t s' I' => ⟨.int kvs.length, H, I', ⟨t, rfl⟩, q⟩
theorem ev_lenDR {σ : L2.St} {H : Hp} {td : TE} {d : Addr} {kvs : List (Key × V)} (h : Ev td σ H (.ref d)) (hd : Rd H d (.dK kvs)) : Ev (tCB rLenDR (tCons td tNil)) σ H (.int (kvs.length : Int)) := fun H1 e Q q => h H1 e _ fun H2 e2 => ⟨d, kvs, rfl, ex_rd (e.trans e2) hd, q H2 e2⟩
end Kn
namespace Kn
open PySem PySem.Spec PyProof.Rows L2 Evl SX
theorem evf_tup {te : TE} {σ : L2.St} {B H : Hp} {xs : List V} {P : V → Hp → Prop} (h : EvU te σ H xs) (k : ∀ t H5, H5 t = some (.tup xs) → P (.ref t) H5) : EvF te σ B H P := fun H1 e1 Q q =>
  h H1 e1 _ fun t H4 ht e4 h4 => q (.ref t) H4 e4 fun H5 h5 => k t H5 (h5 _ _ h4 (.inr ht))
end Kn
namespace Kn
open PySem PySem.Spec PyProof.Rows L2 Evl SX
section
variable {K : PySem.W.Frag} {σ : L2.St} {H H' : Hp} {td te tl : TE} {D : Ends} {tz tu : TS} {d p : Addr} {kvs : List (Key × V)}
/-- for x in d, the dict locked meanwhile; the body neither breaks nor returns -/
theorem q_forKeys {j : Nat} (h1 : ∀ H1, Ev td σ H1 (.ref d)) (hd : H d = some (.dK kvs)) (Pv : Obj → Nat → L2.St → Hp → Prop)
    (h0 : ∀ od H1, Ex (less H d) H1 → H1 d = some (.frz od (.dK kvs)) → Pv od 0 σ H1) (hG : ∀ od i σ' H', Pv od i σ' H' → H' d = some (.frz od (.dK kvs)))
    (hs : ∀ od i (k : Key) (v : V) σ' H' (D' : Ends), kvs[i]? = some (k, v) → Pv od i σ' H' → tu { D' with nx := Pv od (i + 1), ct := Pv od (i + 1) } (σ'.set j (some (kV k))) H')
    (hd' : ∀ od σ' H', Pv od kvs.length σ' H' → tz D σ' (upd H' d (.dK kvs))) : tSeq (tLock (tFor (iKeys td) (gName j) tu)) tz D σ H := by
  refine ⟨d, .dK kvs, hd, trivial, fun od => ?_⟩
  refine h1 _ _ (Ex.refl _) _ fun H1 e1 => ⟨d, od, rfl, .inl ⟨kvs, e1 _ _ upd_same, ?_⟩⟩
  have dn : H1 d = some (.frz od (.dK kvs)) := e1 _ _ upd_same
  have exb : Ex (less H d) H1 := fun a o h => by
    by_cases ha : a = d
    · rw [ha, less_same] at h
      cases h
    · rw [less_ne ha] at h
      exact e1 _ _ (by rw [upd_ne ha]; exact h)
  refine for_it walk_keys (Pv od) (h0 od H1 exb dn) (fun i σ' H' _ q => hG od i σ' H' q) (fun i x σ' H2 H3 hi q y => ?_) (fun σ' H2 q => ⟨hG od _ σ' H2 q, hd' od σ' H2 q⟩)
  obtain ⟨rfl, k, v, hk, rfl⟩ := y
  exact hs od i k v σ' _ ⟨fun _ _ => True, fun v H' => H' d = some (.frz od (.dK kvs)) ∧ D.rt v (upd H' d (.dK kvs)), fun σ' H' => H' d = some (.frz od (.dK kvs)) ∧ tz D σ' (upd H' d (.dK kvs)), fun _ _ => True⟩ hk q
theorem evd_strsL {xs : List Str} (h : EvL te σ H (xs.map V.str)) : EvD te σ H (.list (xs.map .str)) := fun H1 e Q q => h H1 e _ fun p H2 _ e2 hp => q (.ref p) H2 e2 (.lst hp (dta_strs xs))
/-- the source of a comprehension first -/
theorem lc_first {g : TG} {tt : TT} {vs : List Nat} {Q : VK} (h : tl σ H fun v H1 => tLc (iList K (tC v)) g tt te vs σ H1 Q) : tLc (iList K tl) g tt te vs σ H Q := h
theorem tcb_first {r : List V → Hp → VK → Prop} {Q : VK} (h : te σ H fun v H1 => tCB r (tCons (tC v) tNil) σ H1 Q) : tCB r (tCons te tNil) σ H Q := h
end
end Kn
namespace Kn
open PySem PySem.Spec PyProof.Rows L2 Evl SX
theorem cr_listSK {X : Cx} {K : PySem.W.Frag} (h : X.K = K) : CallR X (.type "list") (rListS K) := by subst h; exact cr_listS
/-- list(..) of a list, as a new object -/
theorem evf_pairL {σ : L2.St} {B H : Hp} {K : PySem.W.Frag} {ta tb : TE} {x : V} {xs : List V} {P : V → Hp → Prop} (ha : Ev ta σ H x) (hb : EvL tb σ H xs) (k : ∀ t q H5, H5 t = some (.tup [x, .ref q]) → H5 q = some (.lst xs) → P (.ref t) H5) :
    EvF (tTup (tCons ta (tCons tb tNil))) σ B H P := fun H1 e1 Q q =>
  ha H1 e1 _ fun H2 e2 => hb H2 (e1.trans e2) _ fun p H3 hp e3 h3 => ⟨by show 2 ≤ _; decide, fun t ht => q (.ref t) _ ((e2.trans e3).trans (Ex.new ht)) fun H5 h5 =>
    k t p H5 (h5 _ _ upd_same (.inr (fresh_back (e2.trans e3) ht))) (h5 _ _ (by rw [upd_ne (fun z => by rw [z] at h3; rw [h3] at ht; cases ht)]; exact h3) (.inr (fresh_back e2 hp)))⟩
end Kn
namespace Kn
open PySem PySem.Spec PyProof.Rows L2 Evl SX
theorem tcb_lc {r : List V → Hp → VK → Prop} {K : PySem.W.Frag} {σ : L2.St} {H : Hp} {tl te : TE} {g : TG} {tt : TT} {vs : List Nat} {Q : VK} (h : tl σ H fun v H1 => tCB r (tCons (tLc (iList K (tC v)) g tt te vs) tNil) σ H1 Q) : tCB r (tCons (tLc (iList K tl) g tt te vs) tNil) σ H Q := h
theorem s_asgOf {te : TE} {g : TG} {D : Ends} {σ : L2.St} {H : Hp} (h : te σ H fun v H1 => g v σ H1 D.nx) : tAsg te g D σ H := h
theorem q_asgOf {te : TE} {g : TG} {D : Ends} {σ : L2.St} {H : Hp} {tz : TS} (h : te σ H fun v H1 => g v σ H1 (tz D)) : tSeq (tAsg te g) tz D σ H := h
end Kn
namespace Kn
open PySem PySem.Spec PyProof.Rows L2 Evl SX
theorem can_lists : ∀ {ls : List (List Str)}, (∀ l ∈ ls, ∀ y ∈ l, okS y.cps.toList = true) → PyData.canLayAll0 (ls.map fun l => .list (l.map .str)) = true
  | [], _ => rfl
  | l :: r, h => by
    rw [List.map_cons]
    refine can_cons ?_ (can_lists fun m hm => h m (List.mem_cons_of_mem _ hm))
    show PyData.canLayAll0 (l.map .str) = true
    exact canL_strs (h l List.mem_cons_self)
theorem depth_lists : ∀ ls : List (List Str), PyData.depthAll (ls.map fun l => .list (l.map .str)) ≤ 1
  | [] => Nat.zero_le _
  | l :: r => by
    show max (PyData.depthAll (l.map .str) + 1) (PyData.depthAll (r.map fun l => .list (l.map .str))) ≤ 1
    rw [depth_strs l]
    have := depth_lists r
    omega
theorem shaped_lists {ls : List (List Str)} (h : ∀ l ∈ ls, ∀ y ∈ l, okS y.cps.toList = true) : SeqAt.shaped (.list (ls.map fun l => .list (l.map .str))) = true :=
  shaped_lst (can_lists h) (by
    show PyData.depthAll (ls.map fun l => .list (l.map .str)) + 1 ≤ 64
    have := depth_lists ls
    omega)
theorem paired_refl {α : Type} {F : α → α → Prop} (h : ∀ a, F a a) : ∀ l : List α, Paired F l l
  | [] => .nil
  | a :: r => .cons (h a) (paired_refl h r)
theorem eqv_lists_same {K : PySem.W.Frag} {H : Hp} {p q : Addr} {xs : List Str} (h1 : H p = some (.lst (xs.map V.str))) (h2 : H q = some (.lst (xs.map V.str))) : EqV K H 2 (.ref p) (.ref q) :=
  .inr (.inr (.inl ⟨p, q, _, _, rfl, rfl, sq_of h1, sq_of h2, Paired.maps xs fun a _ => .inl ⟨rfl, rfl⟩⟩))
end Kn

/-! Kh: == of tuples that hold lists and dicts, list.remove of texts, max with a default. -/
namespace PySem.SeqAt
open PySem PySem.Builtin
section
variable {prog : Program} {w : World}
/-- two tuples of the same length whose items are equal, pair by pair -/
theorem kh_tupEq (p q : Addr) (xs ys : Array Value) (m m2 : Nat) (dp dq : Option Addr) (sp sq : Array (Option Value)) (hlen : xs.size = ys.size) :
    MeetsIn prog w (Builtin.«tuple.__eq__» ⟨[.ref p, .ref q], []⟩) (fun A R s => s.heap.get? p = some { cls := .type "tuple", dict := dp, data := .seq xs m, slots := sp } ∧
      s.heap.get? q = some { cls := .type "tuple", dict := dq, data := .seq ys m2, slots := sq } ∧ (∀ (j : Nat) (hx : j < xs.size) (hy : j < ys.size), EqP prog w A.in1 s xs[j] ys[j] true) ∧ R (.ok (.ret (.bool true))) s) := by
  intro A R s h
  obtain ⟨hp, g, d, tk, os⟩ := s
  obtain ⟨h1, h2, he, hR⟩ := h
  have f2 := AutoSeq1.sub_tuple_tuple
  have hz : (xs.toList.zip ys.toList).length = xs.size := by simp [hlen]
  wp_walk using wpAny_loadPart' h1, wpAny_loadPart' h2, wpAny_forIn_list _ (fun rest b s' => b.1 = none ∧ s' = ⟨hp, g, d, tk, os⟩ ∧ ∃ i, rest = (xs.toList.zip ys.toList).drop i) _
  case turn =>
    rintro ⟨v, u⟩ rest b s' ⟨hb', rfl, i, hd⟩
    have hi : i < (xs.toList.zip ys.toList).length := by
      rcases Nat.lt_or_ge i (xs.toList.zip ys.toList).length with c | c
      · exact c
      · rw [List.drop_of_length_le c] at hd
        cases hd
    have hx : i < xs.size := hz ▸ hi
    have hy : i < ys.size := hlen ▸ hx
    rw [List.drop_eq_getElem_cons hi] at hd
    injection hd with e1 e2
    have ev : v = xs[i] := by
      have := congrArg Prod.fst e1
      simpa using this
    have eu : u = ys[i] := by
      have := congrArg Prod.snd e1
      simpa using this
    subst ev eu
    refine wpAny_bind (he i hx hy _ _ ?_)
    wp_walk
    exact ⟨rfl, rfl, i + 1, e2⟩
  case fin =>
    rintro ⟨b1, b2⟩ s' ⟨hb', rfl, i, hd⟩
    simp only at hb'
    subst hb'
    wp_walk
    simpa [Builtin.Tuple.tupleCompareSizes, hlen] using hR
  case h => exact ⟨rfl, rfl, 0, rfl⟩
end
end PySem.SeqAt
namespace Kn
open PySem PySem.Spec PyProof.Rows L2 Evl SX
/-- equal, of nesting below n, with tuples -/
def EqW (K : PySem.W.Frag) (H : Hp) : Nat → V → V → Prop
  | 0 => fun _ _ => False
  | n + 1 => fun x y => (x = y ∧ flatB x = true) ∨ (∃ a, x = .ref a ∧ y = .ref a) ∨ EqR K H (EqW K H n) x y ∨ ∃ a b xs ys, x = .ref a ∧ y = .ref b ∧ SqT K H a xs ∧ SqT K H b ys ∧ Paired (EqW K H n) xs ys
section
variable {X : Cx} {pins : List (Addr × Obj)} {σ : L2.St} {H : Hp} {s : Shared}
theorem tupW_run (I : Inv X pins σ H s) {A : Around} {F : V → V → Prop} (hu : A.units < cLine) (ih : ∀ x y v u, F x y → RelV x v → RelV y u → SeqAt.EqP X.prog X.w A.in1 s v u true) {a b : Addr} {xs ys : List V} (ha : SqT X.K H a xs) (hb : SqT X.K H b ys) (hp : Paired F xs ys)
    (E Q : Value → Shared → Prop) (q : Q (.bool true) s) : wpAny (model X.prog X.w) A (richCompare .Eq (.ref a) (.ref b)) Q E s := by
  obtain ⟨us, r1, p1, _⟩ := I.tuple ha
  obtain ⟨ws, r2, p2, _⟩ := I.tuple hb
  obtain ⟨⟨cls, dd, data, sl⟩, ho, hc, n, hd⟩ := p1
  obtain ⟨⟨cls2, dd2, data2, sl2⟩, ho2, hc2, n2, hd2⟩ := p2
  simp only at hc hd hc2 hd2
  subst hc hd hc2 hd2
  have hlen : us.toArray.size = ws.toArray.size := by
    rw [List.size_toArray, List.size_toArray, ← r1.length, ← r2.length]
    exact Paired.length hp
  have ta : s.TypeIs (.ref a) "tuple" := ⟨_, ho, rfl⟩
  have tb : s.TypeIs (.ref b) "tuple" := ⟨_, ho2, rfl⟩
  refine wpAny_richCompare_same_room (op := .Eq) ta tb PySem.F.slot_tuple_eq (call_meetsIn PySem.F.slot_tuple_eq ta PySem.F.entry_tuple_eq (PySem.F.args_tuple_eq_2 _ _) (SeqAt.kh_tupEq a b us.toArray ws.toArray n n2 dd dd2 sl sl2 hlen) ⟨ho, ho2, fun j h1 h2 => ?_, ?_⟩) hu
  · have k := items_run ih hp r1 r2 j (by simpa using h1) (by simpa using h2)
    simpa using k
  · exact ⟨(fun x => nomatch x), q⟩
theorem eqW_run (I : Inv X pins σ H s) : ∀ (n : Nat) (A : Around), A.units + n < cLine → ∀ (x y : V) (v u : Value), EqW X.K H n x y → RelV x v → RelV y u → SeqAt.EqP X.prog X.w A s v u true
  | 0, _, _, _, _, _, _, h, _, _ => (show False from h).elim
  | n + 1, A, hu, x, y, v, u, h, rx, ry => by
    have ih := eqW_run I n A.in1 (by show A.units + 1 + n < cLine; omega)
    rcases h with ⟨rfl, f⟩ | ⟨a, rfl, rfl⟩ | h | ⟨a, b, xs, ys, rfl, rfl, ha, hb, hp⟩
    · exact (eqAt_same rx ry f).eqP
    · cases (show v = Value.ref a from rx)
      cases (show u = Value.ref a from ry)
      exact (SeqAt.EqAt.same _).eqP
    · have step := eqR_run I (A := A) (by omega) ih h rx ry
      obtain ⟨a, b, rfl, rfl⟩ : ∃ a b, x = .ref a ∧ y = .ref b := by
        rcases h with ⟨a, b, _, _, e1, e2, _⟩ | ⟨a, b, _, _, e1, e2, _⟩
        · exact ⟨a, b, e1, e2⟩
        · exact ⟨a, b, e1, e2⟩
      cases (show v = Value.ref a from rx)
      cases (show u = Value.ref b from ry)
      by_cases e : a = b
      · subst e
        exact (SeqAt.EqAt.same _).eqP
      · exact SeqAt.eqP_refs e step
    · cases (show v = Value.ref a from rx)
      cases (show u = Value.ref b from ry)
      by_cases e : a = b
      · subst e
        exact (SeqAt.EqAt.same _).eqP
      · exact SeqAt.eqP_refs e (tupW_run I (by omega) ih ha hb hp)
end
/-- a == b of tuples that hold lists, dicts, tuples: equal -/
def rEqW (K : PySem.W.Frag) : R2 := fun x y H Q => ∃ n a b xs ys, n ≤ 60 ∧ x = .ref a ∧ y = .ref b ∧ SqT K H a xs ∧ SqT K H b ys ∧ Paired (EqW K H n) xs ys ∧ Q (.bl true) H
theorem op_eqW {X : Cx} (hu : X.A.units + 64 < cLine) : OpR X (compareOp .Eq) (rEqW X.K) := by
  intro pins s σ H x y v u Q I rx ry h
  obtain ⟨n, a, b, xs, ys, hn, rfl, rfl, ha, hb, hp, q⟩ := h
  cases (show v = Value.ref a from rx)
  cases (show u = Value.ref b from ry)
  exact tupW_run I (A := X.A) (by omega) (eqW_run I n X.A.in1 (by show X.A.units + 1 + n < cLine; omega)) ha hb hp _ _ ⟨.bl true, H, I, rfl, q⟩
end Kn
namespace Kn
open PySem PySem.Spec PyProof.Rows L2 Evl SX
/-! ### list.remove of texts -/
theorem strS_at {vs : List Value} {ns : List Str} (h : StrsAre vs ns) {i : Nat} {x : Str} (hx : ns[i]? = some x) : ∃ t, vs[i]? = some (.str x t) := h.get i x hx
theorem erase_mapS : ∀ (l : List Str) (j : Nat), (l.map V.str).eraseIdx j = (l.eraseIdx j).map V.str
  | [], j => by simp
  | a :: r, 0 => by simp
  | a :: r, j + 1 => by
    have := erase_mapS r j
    simp [this]
def rRemS : V → List V → Hp → VK → Prop := fun x xs H Q => ∃ (l : Addr) (ns : List Str) (k : Str) (j : Nat), x = .ref l ∧ xs = [.str k] ∧ H l = some (.lst (ns.map V.str)) ∧ ns[j]? = some k ∧ (∀ m : Nat, m < j → ns[m]? ≠ some k) ∧ Q .non (L2.upd H l (.lst ((ns.eraseIdx j).map V.str)))
theorem mt_removeS {X : Cx} : MtM X "list.remove" rRemS := by
  intro pins s σ H x xs v us Q I rx rxs h
  obtain ⟨l, ns, k, j, rfl, rfl, hH, hj, hno, q⟩ := h
  cases rx
  obtain ⟨u, rfl, ru⟩ := rxs.one
  obtain ⟨t, rfl⟩ := ru
  obtain ⟨z, its, n, r, hl, e⟩ := I.lstM hH
  have hi := Vals.strs r
  rw [List.length_map] at hl z
  have hjn : j < ns.length := (List.getElem?_eq_some_iff.mp hj).1
  have hjl : j < its.toArray.size := by rw [List.size_toArray]; omega
  have at' : ∀ {m : Nat} {y : Str} (hm : m < its.toArray.size), ns[m]? = some y → isStrOf k its.toArray[m] = (y == k) := fun {m y} hm hy => by
    obtain ⟨tm, hmt⟩ := hi.get m y hy
    obtain ⟨h1, h2⟩ := List.getElem?_eq_some_iff.mp hmt
    have e1 : its.toArray[m] = .str y tm := by simpa using h2
    rw [e1]
    rfl
  refine call_meets PySem.F.slot_list_remove ⟨_, e, rfl⟩ PySem.F.entry_list_remove (PySem.F.args_list_remove_2 _ _)
    (MeetsSeq.list_remove l its.toArray n (.str k t) (isStrOf k) (fun y hy => eq_isStrOf k t hi y (by simpa using hy)) j hjl ?_ ?_ (by rw [List.size_toArray]; omega)) ⟨e, ?_⟩
  · rw [at' hjl hj]
    exact beq_self_eq_true k
  · intro m hm hmj
    have hmn : m < ns.length := by omega
    rw [at' hm (List.getElem?_eq_getElem hmn)]
    exact beq_eq_false_iff_ne.mpr fun e2 => hno m hmj (by rw [List.getElem?_eq_getElem hmn, e2])
  · have rr := r.eraseIdx j
    rw [erase_mapS] at rr
    refine ⟨.non, _, I.lset (its' := its.eraseIdx j) (t' := s.toks) hH e ?_ rr ?_, rfl, q⟩
    · show its.toArray.eraseIdxIfInBounds j = (its.eraseIdx j).toArray
      rw [List.eraseIdxIfInBounds_toArray]
    · have z2 : (ns.eraseIdx j).length ≤ ns.length := List.length_eraseIdx_le ..
      rw [List.length_map]
      omega
end Kn
namespace Kn
open PySem PySem.Spec PyProof.Rows L2 Evl SX
/-! ### max(.., default=i) of ints -/
theorem dp_ints {K : PySem.W.Frag} {H : Hp} : ∀ ns : List Int, DpAll K H (ns.map V.int) (ns.map .int)
  | [] => .nil
  | n :: r => .cons (.int n) (dp_ints r)
theorem depth_intsD : ∀ ns : List Int, PyData.depthAll (ns.map .int) = 0
  | [] => rfl
  | n :: r => by
    show max 0 (PyData.depthAll (r.map .int)) = 0
    rw [depth_intsD r]
    rfl
def maxF (i : Int) : List Int → Int
  | [] => i
  | y :: r => r.foldl max y
def rMaxDf (K : PySem.W.Frag) : List V → List V → Hp → VK → Prop := fun vs zs H Q => ∃ (a : Addr) (ns : List Int) (i : Int), vs = [V.ref a] ∧ zs = [.int i] ∧ SqL K H a (ns.map V.int) ∧ Q (.int (maxF i ns)) H
theorem cr_maxDf {X : Cx} (hc : X.calm = true) (hu : X.A.units + 64 < cLine) : CallRK X (.builtin "max") [Str.ofString "default"] (rMaxDf X.K) := by
  intro pins s σ H vs zs us ws Q I r rz h
  obtain ⟨a, ns, i, rfl, rfl, hs, q⟩ := h
  obtain rfl := Vals.ref1 r
  obtain ⟨w1, rfl, e1⟩ := vals1 rz
  obtain ⟨t, rfl⟩ := e1
  obtain ⟨its, rv, hl, _⟩ := I.list hs
  obtain ⟨as, hr⟩ := Dp.readsAll I (ns.map .int) (ns.map V.int) its (dp_ints ns) rv
  refine PySem.W.max_list_default (I.ok.hd hc) hl.isList (by simpa using hr) ⟨fun x hx y hy => ?_, fun x hx => ?_⟩ (by rw [depth_intsD]; omega) (fun h0 h' tk hk => ?_) (fun y ys j v h' tk bs hys hv hrd hk => ?_)
  · obtain ⟨m, _, rfl⟩ := List.mem_map.mp hx
    obtain ⟨n, _, rfl⟩ := List.mem_map.mp hy
    rfl
  · obtain ⟨m, _, rfl⟩ := List.mem_map.mp hx
    exact fun z => nomatch z
  · have hns : ns = [] := List.map_eq_nil_iff.mp h0
    subst hns
    exact ⟨.int i, H, I.kept hk, ⟨t, rfl⟩, q⟩
  · cases ns with
    | nil => cases hys
    | cons m rr =>
      have h1 : PyData.int m = y := (List.cons.inj hys).1
      have h2 : rr.map PyData.int = ys := (List.cons.inj hys).2
      subst h1 h2
      rw [PySem.W.maxD_ints] at hrd
      obtain ⟨t', rfl, _⟩ := reads_int_inv hrd
      exact ⟨.int _, H, I.kept hk, ⟨t', rfl⟩, q⟩
end Kn
namespace Kn
open PySem PySem.Spec PyProof.Rows L2 Evl SX
/-! ### an own error with a list for a field: self.f = list(xs) -/
section
variable {K : PySem.W.Frag} {σ : L2.St} {H H1 H' : Hp} {te : TE} {D : Ends} {a C p : Addr} {xs : List V} {f : Str}
def sp_I1L (f : Str) (K : PySem.W.Frag) : Sp := fun vs H Q _ => ∃ (a C p : Addr) (xs : List V), vs = [.ref a, .ref p] ∧ SqL K H p xs ∧ H a = some (exo a C none) ∧ OexC K C ∧ PySem.W.findIn K (.ref C) f = some none ∧
  ∀ r dx H', H r = none → H dx = none → dx ≠ a → r ≠ a → r ≠ dx → H' r = some (.lst xs) → XMade H H' a C dx [(f, .ref r)] → Q .non H'
theorem raise1L {W : WX} (oe : OexC K C) (nf : PySem.W.findIn K (.ref C) f = some none) (hv : Ev te σ H (.ref p)) (hp : SqL K H p xs)
    (hk : ∀ d r H', Ex H H' → H' d = some (.xd [(f, .ref r)]) → H' r = some (.lst xs) → W (.ref C) (some d) σ H') : tMkO C (sp_I1L f K) [] (tCons te tNil) σ H (fun cls d H' => W cls d σ H') :=
  hv H (Ex.refl _) _ fun H2 e2 => ⟨(by show 1 ≤ 1000; decide), fun a na => ⟨a, C, p, xs, rfl, ex_l (e2.trans (Ex.new na)) hp, upd_same, oe, nf, fun r dx H' hr hdx ne hra hrd hrl m =>
    ⟨rfl, dx, _, m.1, m.2.1, upd_none hdx, hk dx r _ (fun b o hb => by
      have h2 := e2 _ _ hb
      have n1 := ne_of_none h2 (upd_none hdx)
      have n2 := ne_of_none h2 na
      rw [upd_ne n1, del_ne n2]
      exact m.2.2 b o n2 n1 (by rw [upd_ne n2]; exact h2)) upd_same (by rw [upd_ne hrd, del_ne hra]; exact hrl)⟩⟩⟩
theorem init1L_body {m : List Nat} {tj : TE} (hj : Ev tj [some (.ref a), some (.ref p)] H (.str (S m))) (hp : SqL K H p xs) (ha : H a = some (exo a C none)) (oe : OexC K C) (nf : PySem.W.findIn K (.ref C) f = some none)
    (q : ∀ r dx H', H r = none → H dx = none → dx ≠ a → r ≠ a → r ≠ dx → H' r = some (.lst xs) → XMade H H' a C dx [(f, .ref r)] → D.nx [some (.ref a), some (.ref p)] H') :
    tSeq (tDrop (tVeI K (tCons (tVar 0) (tCons tj tNil)))) (tOst K f (tVar 0) (tCB (rListS K) (tCons (tVar 1) tNil))) D [some (.ref a), some (.ref p)] H := by
  refine q_beinit (ev_var rfl) hj oe ha fun H1 e1 => ?_
  refine el_list (ev_var rfl) (ex_l e1 hp) H1 (Ex.refl H1) _ fun r H2 hr e2 hrl => ?_
  refine ⟨_, rfl, a, C, rfl, oe, nf, .inl ⟨(e1.trans e2) _ _ ha, fun dx hd ne => ?_⟩⟩
  have hra : r ≠ a := fun z => by rw [z, e1 _ _ ha] at hr; cases hr
  have hrd : r ≠ dx := fun z => by rw [z, hd] at hrl; cases hrl
  exact q r dx _ (fresh_back e1 hr) (fresh_back (e1.trans e2) hd) ne hra hrd (by rw [upd_ne hra, upd_ne hrd]; exact hrl) (xmade_new (e1.trans e2) ne)
end
/-- raised: a new error with a new list in its field -/
def RzL (H : Hp) (E : XK) (C : Addr) (f : Str) (xs : List V) : Prop := ∀ d r H', Ex H H' → H' d = some (.xd [(f, .ref r)]) → H' r = some (.lst xs) → E (.ref C) (some d) H'
/-- names.index(x) -/
theorem mt_indexK {X : Cx} {K : PySem.W.Frag} (h : X.K = K) : MtR X "list.index" (rIndex K) := by subst h; exact mt_index
end Kn
namespace Kn
open PySem PySem.Spec PyProof.Rows L2 Evl SX
theorem pe_indexK {X : Cx} {K : PySem.W.Frag} {o e : Expr} {es : List Expr} {to : TE} {t : TA} {apos cpos : Pos} (hK : X.K = K) (ho : PE X o to) (ha : PA X (e :: es) t)
    (h1 : attributeBase o (Str.ofString "index") X.env (eval o X.env) = eval o X.env := by rfl)
    (h2 : ((backTo cpos (starEach (e :: es) X.env)).all (fun x => !x.1) && (backToKw cpos (keywordEach [] X.env)).all (fun x => x.1.isSome)
      && decide ((e :: es).length + ([] : List Keyword).length + (if ([] : List Keyword).isEmpty then 0 else 1) < 30)) = true := by rfl)
    (h3 : (apos.endLine == cpos.line) = true := by rfl) (h4 : starEach (e :: es) X.env = (false, eval e X.env) :: starEach es X.env := by rfl) (h5 : (backTo cpos (starEach es X.env)).any (·.1) = false := by rfl) :
    PE X (.Call (.Attribute o "index" apos) (e :: es) [] cpos) (tBM K "list" (rIndex K) to t) := by
  subst hK
  exact pe_bm PySem.F.plainAttrs_list PySem.F.slot_list_index PySem.F.type_list_index mt_index ho ha h1 h2 h3 h4 h5
end Kn
namespace Kn
open PySem PySem.Spec PyProof.Rows L2 Evl SX
theorem firstS : ∀ {ns : List Str} {k : Str}, k ∈ ns → ∃ j, ns[j]? = some k ∧ (∀ m, m < j → ns[m]? ≠ some k) ∧ ns.eraseIdx j = ns.erase k
  | [], k, h => nomatch h
  | a :: r, k, h => by
    by_cases e : a = k
    · refine ⟨0, by rw [e]; rfl, fun m hm => absurd hm (Nat.not_lt_zero _), ?_⟩
      subst e
      rw [List.erase_cons_head]
      rfl
    · obtain ⟨j, h1, h2, h3⟩ := firstS ((List.mem_cons.mp h).resolve_left fun z => e z.symm)
      refine ⟨j + 1, h1, fun m hm => ?_, ?_⟩
      · cases m with
        | zero => exact fun z => e (Option.some.inj z)
        | succ m => exact h2 m (Nat.lt_of_succ_lt_succ hm)
      · rw [List.erase_cons_tail (by simpa using e), ← h3]
        rfl
section
variable {K : PySem.W.Frag} {σ : L2.St} {H : Hp} {ta te : TE} {D : Ends} {tz : TS} {l : Addr} {ns : List Str} {k : Str}
theorem s_removeS (hl : H l = some (.lst (ns.map V.str))) (ha : Ev ta σ H (.ref l)) (he : Ev te σ H (.str k)) (hk : k ∈ ns) (q : ∀ H1, Ex H H1 → D.nx σ (L2.upd H1 l (.lst ((ns.erase k).map V.str)))) :
    tDrop (tBM K "list" rRemS ta (tCons te tNil)) D σ H := by
  obtain ⟨j, h1, h2, h3⟩ := firstS hk
  refine ha H (Ex.refl H) _ fun H1 e1 => ⟨Or.inl ⟨rfl, _, sq_of (e1 l _ hl)⟩, he H1 e1 _ fun H2 e2 => ⟨l, ns, k, j, rfl, rfl, e2 l _ (e1 l _ hl), h1, h2, ?_⟩⟩
  rw [h3]
  exact q H2 (e1.trans e2)
end
end Kn
namespace Kn
open PySem PySem.Spec PyProof.Rows L2 Evl SX
section
variable {K : PySem.W.Frag} {σ : L2.St} {H : Hp} {ta te tl : TE} {D : Ends} {tz tu : TS} {g : TG}
theorem ev_maxDf {ns : List Int} {i : Int} (h : EvL te σ H (ns.map V.int)) : Ev (tCKw (rMaxDf K) (tCons te tNil) (tCons (tC (.int i)) tNil)) σ H (.int (maxF i ns)) := fun H1 e Q q =>
  h H1 e _ fun p H2 _ e2 hp => ⟨p, ns, i, rfl, rfl, sq_of hp, q H2 e2⟩
theorem q_forFirst (h : tl σ H fun v H1 => tSeq (tFor (iList K (tC v)) g tu) tz D σ H1) : tSeq (tFor (iList K tl) g tu) tz D σ H := h
end
end Kn

/-! Kc: except (A, B) without a name; != of equal tuples that hold lists and dicts. -/
namespace Kn
open PySem PySem.Spec PyProof.Rows L2 Evl SX
/-- what the clause 'except (c1, c2)' wishes of an exception of the body -/
def wOnly2 (K : PySem.W.Frag) (c1 c2 : Value) (ts : Addr → Value → Option Addr → TS) (Wout : WX) (D : Ends) : WX := fun cls d σ H =>
  ∃ b, PySem.W.exmAny K cls [c1, c2] = some b ∧ (b = true → ∀ a, H a = none → ts a cls d D σ H) ∧ (b = false → Wout cls d σ H)
theorem flyingZ_keeps {base h h' : Heap} {l : List Env} {e : Addr} {Z : Obj → Prop} (x : HandSPX.FlyingZ base l e Z h) (k : ∀ b o, h.get? b = some o → h'.get? b = some o) : HandSPX.FlyingZ base l e Z h' := by
  obtain ⟨k1, k2, k3, oe, vs, T, oT, ts, h1, h2, h3, h4, h5, h6, h7, h8, h9⟩ := x
  exact ⟨fun b o z => k _ _ (k1 b o z), k2, Heap.FunFrames.of_keeps (fun b o e _ => ⟨o, k b o e, rfl⟩) k3, oe, vs, T, oT, ts, k _ _ h1, h2, h3, h4, h5, h6, k _ _ h7, h8, h9⟩
/-! the pieces of a try: what runs through, what the suite leaves, the test of a pair of classes, what goes on -/
section
variable {X : Cx} {pins : List (Addr × Obj)} {D : Ends}
theorem kc_spTry {xe : Value → Shared → Prop} (ok : X.Ok) : ∀ {f : Flow} {t : Shared}, SP (X.tr (X.pn ++ pins) xe) [] D f t → SP X pins D f t
  | .next, _, ⟨σ1, H1, J, q⟩ => ⟨σ1, H1, J.ofTry ok, q⟩
  | .brk, _, ⟨σ1, H1, J, q⟩ => ⟨σ1, H1, J.ofTry ok, q⟩
  | .cont, _, ⟨σ1, H1, J, q⟩ => ⟨σ1, H1, J.ofTry ok, q⟩
  | .ret _, _, ⟨v1, σ1, H1, J, r, q⟩ => ⟨v1, σ1, H1, J.ofTry ok, r, q⟩
theorem kc_spSuite {a : Addr} {p : Addr × Obj} (ok : X.Ok) : ∀ {f : Flow} {t : Shared}, SP (X.suite a (p :: (X.pn ++ pins))) [] D f t → SP X pins D f t
  | .next, _, ⟨σ1, H1, J, q⟩ => ⟨σ1, H1, J.unsuite ok, q⟩
  | .brk, _, ⟨σ1, H1, J, q⟩ => ⟨σ1, H1, J.unsuite ok, q⟩
  | .cont, _, ⟨σ1, H1, J, q⟩ => ⟨σ1, H1, J.unsuite ok, q⟩
  | .ret _, _, ⟨v1, σ1, H1, J, r, q⟩ => ⟨v1, σ1, H1, J.unsuite ok, r, q⟩
/-- the exception's object is no frame -/
theorem kc_apart {B h : Heap} {l : List Env} {a : Addr} {Z : Obj → Prop} (x : HandSPX.FlyingZ B l a Z h) : a ∉ frs l := fun hm => by
  obtain ⟨o1, vs1, h1, _, h2⟩ := x.there
  obtain ⟨_, o2, h3, h4⟩ := x.2.2.1.mem hm
  have e : o2 = o1 := Option.some.inj (h3.symm.trans h1)
  exact h4 vs1 (e ▸ h2)
/-- (A, B), evaluated -/
theorem kc_pair {x1 x2 : Str} {c1 c2 : Value} {np1 np2 tpos : Pos} {kk : Nat} {σ : L2.St} {H : Hp} {t : Shared} {Q E : Value → Shared → Prop} (I : Inv X pins σ H t) (hc1 : Names X x1 c1) (hc2 : Names X x2 c2)
    (q : Q (.ref t.heap.objs.size) { t with heap := t.heap.push { cls := .type "tuple", data := .seq [c1, c2].toArray } }) :
    wpAny (model X.prog X.w) X.A (eval (.Tuple [.Name x1 np1, .Name x2 np2] kk tpos) X.env) Q E t := by
  have one : ∀ {x : Str} {c : Value} {np : Pos} {Q1 : Value → Shared → Prop}, Names X x c → Q1 c t → wpAny (model X.prog X.w) X.A (eval (.Name x np) X.env) Q1 E t := fun {x c np Q1} hc h => by
    rcases hc with ⟨hg, hd, hm | ⟨hm, hv, hn⟩⟩
    · exact ld_glob I hg hm h hd
    · exact ld_blt I hg hm hv h hn hd
  exact wpAny_Tuple (PySem.wpAny_items_cons (one hc1 (PySem.wpAny_items_cons (one hc2 (PySem.wpAny_items_nil ⟨by size_fits, q⟩)))))
/-- no clause is left: the exception goes on -/
theorem kc_on {W : WX} {σ : L2.St} {H : Hp} {sI t : Shared} {B : Heap} {a : Addr} {cls : Value} {d : Option Addr} (hs : X.stack = X.env :: X.outer) (hf : X.env.frame = some X.env.locals) (tk : Takes X W) (J : Inv X pins σ H sI)
    (nb : ∀ b o, sI.heap.get? b = some o → b ∉ frs X.stack → B.get? b = some o) (up : sI.heap.UpToSlots t.heap) (fl : HandSPX.FlyingZ B (X.env :: X.outer) a (Zc cls d) t.heap) (na : H a = none) (os : t.os = sI.os) (ag : AllBare t.gens) (w : W cls d σ H) :
    wpAny (model X.prog X.w) X.A (handleBy (.ref a) X.env []) (SP X pins D) X.xe t := by
  have out : wpAny (model X.prog X.w) X.A (setFlight (.ref a) X.env.frame) (fun _ t1 => wpAny (model X.prog X.w) X.A (throw (.ref a) : Sem Flow) (SP X pins D) X.xe t1) X.xe t := by
    rw [hf]
    exact HandSPX.setFlight_upZ fl fun h1 held up1 => wpAny_throw (tk _ _ ⟨a, B, sI, pins, σ, H, cls, d, rfl, J, nb, up.trans up1, .inr (.inr (hs ▸ held)), na, os, ag, w⟩)
  obtain ⟨_, _, _, oe, vs, T, _, _, h1, _, h2, h3, _⟩ := id fl
  refine wpAny_handleBy_nil ?_
  unfold PySem.passOn
  refine wpAny_bind (wpAny_field h1 h2 h3 ?_)
  rw [if_neg (show ¬ (Value.ref T == Value.none) = true by simp)]
  first
    | exact wpAny_bind (wpAny_pure (wpAny_bind out))
    | exact wpAny_bind out
end
section
variable {X : Cx} {x1 x2 : Str} {c1 c2 : Value} {body suite : List Stmt} {b₀ : Stmt} {np1 np2 tpos pos pos' : Pos} {kk : Nat} {tb : WX → TS} {ts : Addr → Value → Option Addr → TS} {Wout : WX}
theorem ps_try_only2 (hs : X.stack = X.env :: X.outer) (hf : X.env.frame = some X.env.locals) (hc1 : Names X x1 c1) (hc2 : Names X x2 c2) (tk : Takes X Wout)
    (hb : ∀ (W : WX) (pn : List (Addr × Obj)) (xe : Value → Shared → Prop), Takes (X.tr pn xe) W → PassesOwn (model X.prog X.w) X.A X.env xe → PSs (X.tr pn xe) body (tb W))
    (hsu : ∀ (a : Addr) (oe : Obj) (cls : Value) (d : Option Addr) (pn : List (Addr × Obj)), Zc cls d oe → (∃ vs, oe.data = .fields vs) → PSs (X.suite a ((a, oe) :: pn)) (b₀ :: suite) (ts a cls d)) :
    PS X (.Try body [.ExceptHandler (some (.Tuple [.Name x1 np1, .Name x2 np2] kk tpos)) none (b₀ :: suite) pos'] [] [] pos) (fun D σ H => tb (wOnly2 X.K c1 c2 ts Wout D) D σ H) := by
  refine ⟨fun pins s σ H D I want => wpAny_Try_except ?_⟩
  have ok := I.ok
  have run := (hb (wOnly2 X.K c1 c2 ts Wout D) (X.pn ++ pins) (fun e t1 => wpAny (model X.prog X.w) X.A (noteFrame e X.env) (fun _ t2 => wpAny (model X.prog X.w) X.A (setFlight e none) (fun _ t3 =>
    wpAny (model X.prog X.w) X.A (handleBy e X.env [.ExceptHandler (some (.Tuple [.Name x1 np1, .Name x2 np2] kk tpos)) none (b₀ :: suite) pos']) (SP X pins D) X.xe t3) X.xe t2) X.xe t1) (fun u t xx => ?_) PassesOwn.looking).run [] s σ H D (I.toTry _) want
  · refine wpAny_mono run (fun f t h => ?_) fun _ _ h => h
    have z := kc_spTry ok h
    cases f with
    | next => exact wpAny_execs_nil z
    | brk => exact z
    | cont => exact z
    | ret u => exact z
  · obtain ⟨a, B, sI, pins', σ', H', cls, d, rfl, J', nb, up, sky, na, os, ag, b, hb1, hyes, hno⟩ := xx
    have J : Inv X pins σ' H' sI := J'.ofTry ok
    have sky' : Sky B (X.env :: X.outer) a (Zc cls d) X.env.locals t.heap := hs ▸ sky
    show wpAny (model X.prog X.w) X.A (noteFrame (.ref a) X.env) _ _ _
    refine Sky.land Zc.steady (by rw [ok.frames, hs]) hf sky' fun g0 fl0 up0 => ?_
    have apart := kc_apart fl0
    have nL : a ≠ X.env.locals := fun z => apart (List.mem_filterMap.mpr ⟨X.env, List.mem_cons_self, by rw [hf, z]⟩)
    have nF : a ∉ X.fs := fun hm => by
      obtain ⟨e, he, q⟩ := List.mem_filterMap.mp hm
      exact apart (List.mem_filterMap.mpr ⟨e, List.mem_cons_of_mem _ he, q⟩)
    -- whatever the heap is grown to, the suite may begin
    have S : ∀ {g : Heap} (fl : HandSPX.FlyingZ B (X.env :: X.outer) a (Zc cls d) g), t.heap.UpToSlots g → ∃ oe, Zc cls d oe ∧ (∃ vs, oe.data = .fields vs) ∧ g.get? a = some oe ∧ Inv (X.suite a ((a, oe) :: (X.pn ++ pins))) [] σ' H' { t with heap := g } := fun {g} fl upg => by
      obtain ⟨oe, vs, h1, h2, h3⟩ := fl.there
      have Jg : Inv X pins σ' H' { t with heap := g } := J.landed nb fl.1 (up.trans upg) os ag
      exact ⟨oe, h2, ⟨vs, h3⟩, h1, Jg.suite h1 h3 na nL nF⟩
    obtain ⟨oe0, hz0, _, he0, S0⟩ := S fl0 up0
    refine wpAny_handleBy_cons (codeAny_handlers_test ?_) (by intro q; cases q)
    refine kc_pair (X := X.suite a ((a, oe0) :: (X.pn ++ pins))) S0 hc1 hc2 ?_
    have LT0 : PySem.W.Looks (model X.prog X.w) g0 (typeOf (.ref a)) cls := fun A Q E t1 k q => wpAny_typeOf_ref (k _ _ he0) (by rw [hz0.1]; exact q)
    have kp : ∀ q o, g0.get? q = some o → (g0.push { cls := .type "tuple", data := .seq [c1, c2].toArray }).get? q = some o := fun _ _ z => Heap.get?_push_of_some _ z
    have fl1 := flyingZ_keeps fl0 kp
    have up1 := up0.trans (Heap.UpToSlots.of_keeps kp)
    have L := PySem.W.exm_tup2 (M := model X.prog X.w) ((S0.kIn).keeps kp) (LT0.keeps kp) (Heap.get?_push_size (o := ({ cls := .type "tuple", data := .seq [c1, c2].toArray } : Obj)) g0 rfl) hb1
    show wpAny _ _ (excMatches (.ref a) (.ref g0.objs.size)) _ _ { t with heap := g0.push { cls := .type "tuple", data := .seq [c1, c2].toArray } }
    generalize g0.push { cls := .type "tuple", data := .seq [c1, c2].toArray } = g1 at fl1 up1 L
    refine L.here ?_
    cases b with
    | false => exact kc_on (t := { t with heap := g1 }) hs hf tk J nb (up.trans up1) fl1 na os ag (hno rfl)
    | true =>
      refine codeAny_handlers_suite (HandSPX.lands_againZ fl1 fun g2 fl2 up2 => ?_)
      obtain ⟨oe2, hz2, hd2, _, S2⟩ := S fl2 (up1.trans up2)
      exact wpAny_mono ((hsu a oe2 cls d (X.pn ++ pins) hz2 hd2).run [] _ _ H' _ S2 (hyes rfl a na)) (fun f t1 h => kc_spSuite ok h) fun _ _ z => z.elim
end
end Kn
namespace PySem.SeqAt
open PySem PySem.Builtin
section
variable {prog : Program} {w : World}
/-- two tuples of the same length whose items are equal, pair by pair, are not unequal -/
theorem kc_tupNe (p q : Addr) (xs ys : Array Value) (m m2 : Nat) (dp dq : Option Addr) (sp sq : Array (Option Value)) (hlen : xs.size = ys.size) :
    MeetsIn prog w (Builtin.«tuple.__ne__» ⟨[.ref p, .ref q], []⟩) (fun A R s => s.heap.get? p = some { cls := .type "tuple", dict := dp, data := .seq xs m, slots := sp } ∧
      s.heap.get? q = some { cls := .type "tuple", dict := dq, data := .seq ys m2, slots := sq } ∧ (∀ (j : Nat) (hx : j < xs.size) (hy : j < ys.size), EqP prog w A.in1 s xs[j] ys[j] true) ∧ R (.ok (.ret (.bool false))) s) := by
  intro A R s h
  obtain ⟨hp, g, d, tk, os⟩ := s
  obtain ⟨h1, h2, he, hR⟩ := h
  have f2 := AutoSeq1.sub_tuple_tuple
  have hz : (xs.toList.zip ys.toList).length = xs.size := by simp [hlen]
  wp_walk using wpAny_loadPart' h1, wpAny_loadPart' h2, wpAny_forIn_list _ (fun rest b s' => b.1 = none ∧ s' = ⟨hp, g, d, tk, os⟩ ∧ ∃ i, rest = (xs.toList.zip ys.toList).drop i) _
  case turn =>
    rintro ⟨v, u⟩ rest b s' ⟨hb', rfl, i, hd⟩
    have hi : i < (xs.toList.zip ys.toList).length := by
      rcases Nat.lt_or_ge i (xs.toList.zip ys.toList).length with c | c
      · exact c
      · rw [List.drop_of_length_le c] at hd
        cases hd
    have hx : i < xs.size := hz ▸ hi
    have hy : i < ys.size := hlen ▸ hx
    rw [List.drop_eq_getElem_cons hi] at hd
    injection hd with e1 e2
    have ev : v = xs[i] := by
      have := congrArg Prod.fst e1
      simpa using this
    have eu : u = ys[i] := by
      have := congrArg Prod.snd e1
      simpa using this
    subst ev eu
    refine wpAny_bind (he i hx hy _ _ ?_)
    wp_walk
    exact ⟨rfl, rfl, i + 1, e2⟩
  case fin =>
    rintro ⟨b1, b2⟩ s' ⟨hb', rfl, i, hd⟩
    simp only at hb'
    subst hb'
    wp_walk
    simpa [Builtin.Tuple.tupleCompareSizes, hlen] using hR
  case h => exact ⟨rfl, rfl, 0, rfl⟩
end
end PySem.SeqAt
namespace Kn
open PySem PySem.Spec PyProof.Rows L2 Evl SX
section
variable {X : Cx} {pins : List (Addr × Obj)} {σ : L2.St} {H : Hp} {s : Shared}
theorem tupNW_run (I : Inv X pins σ H s) {A : Around} {F : V → V → Prop} (hu : A.units < cLine) (ih : ∀ x y v u, F x y → RelV x v → RelV y u → SeqAt.EqP X.prog X.w A.in1 s v u true) {a b : Addr} {xs ys : List V} (ha : SqT X.K H a xs) (hb : SqT X.K H b ys) (hp : Paired F xs ys)
    (E Q : Value → Shared → Prop) (q : Q (.bool false) s) : wpAny (model X.prog X.w) A (richCompare .NotEq (.ref a) (.ref b)) Q E s := by
  obtain ⟨us, r1, p1, _⟩ := I.tuple ha
  obtain ⟨ws, r2, p2, _⟩ := I.tuple hb
  obtain ⟨⟨cls, dd, data, sl⟩, ho, hc, n, hd⟩ := p1
  obtain ⟨⟨cls2, dd2, data2, sl2⟩, ho2, hc2, n2, hd2⟩ := p2
  simp only at hc hd hc2 hd2
  subst hc hd hc2 hd2
  have hlen : us.toArray.size = ws.toArray.size := by
    rw [List.size_toArray, List.size_toArray, ← r1.length, ← r2.length]
    exact Paired.length hp
  have ta : s.TypeIs (.ref a) "tuple" := ⟨_, ho, rfl⟩
  have tb : s.TypeIs (.ref b) "tuple" := ⟨_, ho2, rfl⟩
  refine wpAny_richCompare_same_room (op := .NotEq) ta tb PySem.F.slot_tuple_ne (call_meetsIn PySem.F.slot_tuple_ne ta PySem.F.entry_tuple_ne (PySem.F.args_tuple_ne_2 _ _) (SeqAt.kc_tupNe a b us.toArray ws.toArray n n2 dd dd2 sl sl2 hlen) ⟨ho, ho2, fun j h1 h2 => ?_, ?_⟩) hu
  · have k := items_run ih hp r1 r2 j (by simpa using h1) (by simpa using h2)
    simpa using k
  · exact ⟨(fun x => nomatch x), q⟩
end
/-- a != b of tuples that hold lists, dicts, tuples: equal -/
def rNeW (K : PySem.W.Frag) : R2 := fun x y H Q => ∃ n a b xs ys, n ≤ 60 ∧ x = .ref a ∧ y = .ref b ∧ SqT K H a xs ∧ SqT K H b ys ∧ Paired (EqW K H n) xs ys ∧ Q (.bl false) H
theorem op_neW {X : Cx} (hu : X.A.units + 64 < cLine) : OpR X (compareOp .NotEq) (rNeW X.K) := by
  intro pins s σ H x y v u Q I rx ry h
  obtain ⟨n, a, b, xs, ys, hn, rfl, rfl, ha, hb, hp, q⟩ := h
  cases (show v = Value.ref a from rx)
  cases (show u = Value.ref b from ry)
  exact tupNW_run I (A := X.A) (by omega) (eqW_run I n X.A.in1 (by show X.A.units + 1 + n < cLine; omega)) ha hb hp _ _ ⟨.bl false, H, I, rfl, q⟩
end Kn

/-! Kj: a comprehension whose element wants a token; sep.join of such a one. -/
namespace Kn
open PySem PySem.Spec PyProof.Rows L2 Evl SX
section
variable {X : Cx}
theorem keepF {α : Type} {t : Sem α} {Q : α → Shared → Prop} {M : Model} {A : Around} {s : Shared} (h0 : 1 ≤ s.toks) (h : wpAny M A t Q (fun _ _ => False) s) : wpAny M A t (fun a s' => 1 ≤ s'.toks ∧ Q a s') (fun _ _ => False) s :=
  wpAny_mono (PySem.wpAny_toks h) (fun _ _ q => ⟨Nat.le_trans h0 q.1, q.2⟩) fun _ _ z => z.2
/-- what stands between the turns of a block: the iterator's objects untracked, the wish for the turn, a token out -/
def Blk1 (Y : Cx) (σ : L2.St) (fp : List Addr) (tn : Nat → Heap → Prop) (W : Nat → Nat → Hp → Prop) (n : Nat) (t : Shared) : Prop :=
  1 ≤ t.toks ∧ ∃ i H, Inv Y [] σ H t ∧ tn i t.heap ∧ (∀ b ∈ fp, H b = none) ∧ W i n H
/-- the loop of a block, each element with a token out -/
theorem blk_loop {Y : Cx} {elt tg iter : Expr} {ifs : List Expr} {scope : Scope} {pos : Pos} {g : TG} {tt : TT} {te : TE} {vs : List Nat} {fp : List Addr} {tn : Nat → Heap → Prop} {J : It} {it D : Addr} {σ : L2.St} {W : Nat → Nat → Hp → Prop} {Qd : Hp → Prop} {R : Result → Shared → Prop} {s : Shared} {m0 : Nat}
    (hc : Y.calm = true) (hx : Y.xe = fun _ _ => False) (hp : Y.pn = []) (hex : Y.ex = fp) (T : Turn Y.prog Y.w Y.K tg J fp it tn) (pg : PG Y tg g) (pt : PTs Y ifs tt) (pe : L2.PET Y elt te)
    (turn : ∀ i m H, W i m H → (J.stop i H ∧ Qd H) ∨ (J.go i H ∧ ∃ Nx : Hp → Prop, (∀ H', Nx H' → ∃ m', m' < m ∧ W (i + 1) m' H') ∧ ∀ x H', J.yld i H x H' → g x (wipe σ vs) H' fun σ2 H2 => wipe σ2 vs = wipe σ vs ∧ tt σ2 H2 fun b H3 =>
      if b = true then te σ2 H3 fun y H4 => ∃ acc, H4 D = some (.lst acc) ∧ acc.length < sizeLine ∧ Nx (L2.upd H4 D (.lst (acc ++ [y]))) else Nx H3))
    (fin : ∀ t H, Inv Y [] (wipe σ vs) H t → Qd H → R (.ok .next) t) (h0 : Blk1 Y (wipe σ vs) fp tn W m0 s) :
    codeAny (model Y.prog Y.w) Y.A (.compLoop (.ListComp elt [⟨tg, iter, ifs, 0⟩] scope pos) 0 (.ref it) (.ref D) Y.env) R s := by
  have still : ∀ {σ1 : L2.St} {H1 : Hp} {t : Shared}, Inv Y [] σ1 H1 t → (∀ b ∈ fp, H1 b = none) → ∀ b ∈ fp, FpOk Y [] H1 b := fun {σ1 H1 t} I hn b hb => by
    have hb' : b ∈ Y.ex := hex ▸ hb
    refine ⟨hn b hb, (I.ok.exf b hb').1, I.ok.exfs b hb', .inl hb', fun x c e => (I.ok.exf b hb').2 x c e, fun p h => ?_⟩
    rw [hp] at h
    cases h
  have run : ∀ {α : Type} {t : Sem α} {Q Q' : α → Shared → Prop} {E : Value → Shared → Prop} {t0 : Shared}, wpAny (model Y.prog Y.w) Y.A t Q Y.xe t0 → (∀ a u, Q a u → Q' a u) → wpAny (model Y.prog Y.w) Y.A t Q' E t0 := fun {α t Q Q' E t0} h k => wpAny_mono h k fun _ _ z => by
    rw [hx] at z
    exact z.elim
  refine compLoop_any (Blk1 Y (wipe σ vs) fp tn W) ?_ m0 h0
  rintro n t ⟨k0, i, H, I, st, hn, w⟩
  rcases turn i n H w with ⟨stop, qd⟩ | ⟨go, Nx, hNx, step⟩
  · exact thnF (T.done Y rfl rfl rfl hc i [] t _ H (fun _ _ => False) I (still I hn) st stop) fun r t1 ⟨hr, I1⟩ => by
      subst hr
      exact fin t1 H I1 qd
  refine thnF (keepF k0 (T.item Y rfl rfl rfl hc i [] t _ H (fun _ _ => False) I (still I hn) st go)) fun r t1 ⟨k1, u, hr, h1⟩ => ?_
  subst hr
  refine thnF (keepF k1 h1) fun _ t2 ⟨k2, x, H2, I2, r2, y2, st2, n2⟩ => ?_
  have P2 := I2.pinned (still I2 n2) (T.obj _ _ st2)
  have up : ∀ {α : Type} {c : Sem α} {Q : α → Shared → Prop} {t0 : Shared}, 1 ≤ t0.toks → wpAny (model Y.prog Y.w) Y.A c Q Y.xe t0 → wpAny (model Y.prog Y.w) Y.A c (fun a t' => 1 ≤ t'.toks ∧ Q a t') Y.xe t0 := fun {α c Q t0} hk h =>
    wpAny_mono (PySem.wpAny_toks h) (fun _ _ q => ⟨Nat.le_trans hk q.1, q.2⟩) fun _ _ z => z.2
  refine run (up k2 (pg.run _ t2 _ H2 x u _ P2 r2 (step x H2 y2))) fun _ t3 ⟨k3, σ3, H3, I3, hw3, q3⟩ => ?_
  refine run (up k3 (pt.run _ t3 σ3 H3 _ I3 q3)) fun b t4 ⟨k4, H4, I4, q4⟩ => ?_
  have next : ∀ {t' : Shared} {H' : Hp}, 1 ≤ t'.toks → Inv Y ([] ++ pinsAt fp t2.heap) σ3 H' t' → Nx H' → ∃ m, m < n ∧ Blk1 Y (wipe σ vs) fp tn W m t' := fun {t' H'} k' I' nx => by
    obtain ⟨m, hm, w'⟩ := hNx H' nx
    have pinned : ∀ b ∈ fp, ∀ o, t2.heap.get? b = some o → t'.heap.get? b = some o ∧ H' b = none := fun b hb o e => by
      have z := I'.pin (b, o) (List.mem_append_right _ (List.mem_append_right _ (mem_pinsAt hb e)))
      exact ⟨z.1, z.2.1⟩
    refine ⟨m, hm, k', i + 1, H', (I'.unpinned (pins := [])).weak (by rw [← hw3, wipe_length]) (fun j v e => (wipe_some (hw3 ▸ e)).1), T.keep _ _ _ st2 (fun b hb o e => (pinned b hb o e).1), fun b hb => ?_, w'⟩
    obtain ⟨o, e, _⟩ := T.obj _ _ st2 b hb
    exact (pinned b hb o e).2
  cases b with
  | false =>
    rw [if_neg Bool.false_ne_true] at q4 ⊢
    exact next k4 I4 q4
  | true =>
    rw [if_pos rfl] at q4 ⊢
    refine run (up k4 (pe _ t4 σ3 H4 _ k4 I4 q4)) fun z t5 ⟨k5, yv, H5, I5, r5, acc, hD, hz, nx⟩ => ?_
    have ap : wpAny (model Y.prog Y.w) Y.A (call (.builtin "list.append") [.ref D, z]) (fun _ t' => Inv Y ([] ++ pinsAt fp t2.heap) σ3 (L2.upd H5 D (.lst (acc ++ [yv]))) t') Y.xe t5 := app_ok I5 hD hz r5 fun t6 I6 => I6
    exact run (up k5 ap) fun _ t6 ⟨k6, I6⟩ => next k6 I6 nx
/-- [elt for target in iter if ..] as a value, where the element wants a token and one is out -/
theorem pet_lc {elt tg iter : Expr} {ifs : List Expr} {scope : Scope} {own : List (Str × Nat)} {pos : Pos} {wi : TI} {g : TG} {tt : TT} {te : TE} (hc : X.calm = true) (hN : X.N.Nodup) (hi : PI X tg iter wi) (ok : BlkOk X.N X.env.scope scope own)
    (hg : ∀ (s : Shared) (H : Hp) (C : Addr) (cl : List (Str × Addr)) (fp : List Addr), PG (X.blk s H scope (compEnvC scope cl C X.env) fp) tg g) (ht : ∀ (s : Shared) (H : Hp) (C : Addr) (cl : List (Str × Addr)) (fp : List Addr), PTs (X.blk s H scope (compEnvC scope cl C X.env) fp) ifs tt)
    (he : ∀ (s : Shared) (H : Hp) (C : Addr) (cl : List (Str × Addr)) (fp : List Addr), L2.PET (X.blk s H scope (compEnvC scope cl C X.env) fp) elt te) (hs : ∀ x, foldedSetIterable iter X.env x = pure x := by intro _; rfl) :
    L2.PET X (.ListComp elt [⟨tg, iter, ifs, 0⟩] scope pos) (tLc wi g tt te (own.map (·.2))) := by
  intro pins s σ H Q h0 I h
  rw [eval_ListComp]
  have open_ : ∀ y ∈ scope.names, y.2 = .free → ∃ c, X.env.cells.lookup y.1 = some c := fun y hy e => (ok.free y hy e).elim (fun k => I.ok.has _ (.inl k)) fun k => I.ok.has _ (.inr k)
  have first := wpAny_mono (PySem.wpAny_toks (hi.run pins s σ H _ I h)) (fun v t (q : _ ∧ _) => PySem.wpAny_toks_of q.1 q.2) (fun e t q => q.2)
  refine wpAny_comprehension_free (use := none) rfl hs (closure_ok open_) ok.kind (fun y hy e => by rw [ok.uniq y hy, e]) (wpAny_mono first (fun v t1 h1 => wpAny_mono h1 (fun itv t2 h2 => ?_) fun _ _ z => z.2) fun _ _ z => z)
  obtain ⟨k2, it, fp, tn, J, H2, rfl, I2, T, st2, f2, q⟩ := h2
  have hk2 : 1 ≤ t2.toks := Nat.le_trans h0 k2
  refine wpAny_newObj_type (newEnv_comp ?_) (by show 0 ≤ sizeLine; decide)
  have nD : H2 t2.heap.objs.size = none := I2.hok.fresh (Nat.le_refl _)
  obtain ⟨W, ⟨m0, w0⟩, turn⟩ := q _ nD
  have lt2 : ∀ b ∈ fp, b < t2.heap.objs.size := fun b hb => by
    obtain ⟨o, e, _⟩ := T.obj _ _ st2 b hb
    exact Heap.lt_size e
  generalize hD : t2.heap.objs.size = D at nD w0 turn lt2
  generalize h3 : ({ t2 with heap := t2.heap.push { cls := .type "list", data := .seq ([] : List Value).toArray } } : Shared) = t3
  have p3 : t3.heap = t2.heap.push { cls := .type "list", data := .seq ([] : List Value).toArray } := by rw [← h3]
  have k3 : 1 ≤ t3.toks := by rw [← h3]; exact hk2
  have I3 : Inv X pins σ (L2.upd H2 D (.lst [])) t3 := by
    rw [← h3]
    refine I2.laid (t' := t2.toks) (fun b o e => Heap.get?_push_of_some _ e) (Nat.le_of_eq hD) ⟨Nat.zero_le _, [], 0, .nil, ?_⟩
    rw [← hD]
    exact Heap.get?_push_size _ rfl
  have f3 : ∀ b ∈ fp, FpOk X pins (L2.upd H2 D (.lst [])) b ∧ b < t3.heap.objs.size := fun b hb => by
    have lt := lt2 b hb
    exact ⟨⟨by rw [upd_ne (Nat.ne_of_lt lt)]; exact (f2 b hb).1, (f2 b hb).2⟩, by rw [p3, Heap.size_push, hD]; exact Nat.lt_succ_of_lt lt⟩
  have I4 := block_start I3 ok hN f3
  show codeAny _ _ (.compStart (.ListComp elt [⟨tg, iter, ifs, 0⟩] scope pos) 0 (.ref it) (.ref D) (compEnvC scope (cellsFrom (t3.heap.objs.size + 1) scope.names (cloFrom X.env.cells scope.names [])) t3.heap.objs.size X.env)) (compPost (model X.prog X.w) X.A X.xe none _ (.ref D) t3.heap.objs.size) { t3 with heap := pushCells (t3.heap.push { cls := .type "dict", data := .dict #[] }) scope.names }
  have pg := hg t3 (L2.upd H2 D (.lst [])) t3.heap.objs.size (cellsFrom (t3.heap.objs.size + 1) scope.names (cloFrom X.env.cells scope.names [])) fp
  have pt := ht t3 (L2.upd H2 D (.lst [])) t3.heap.objs.size (cellsFrom (t3.heap.objs.size + 1) scope.names (cloFrom X.env.cells scope.names [])) fp
  have pe := he t3 (L2.upd H2 D (.lst [])) t3.heap.objs.size (cellsFrom (t3.heap.objs.size + 1) scope.names (cloFrom X.env.cells scope.names [])) fp
  have st4 : tn 0 (pushCells (t3.heap.push { cls := .type "dict", data := .dict #[] }) scope.names) := T.keep _ _ _ st2 fun b _ o e => pushCells_keeps _ _ _ _ (Heap.get?_push_of_some _ (by rw [p3]; exact Heap.get?_push_of_some _ e))
  have nfp : ∀ b ∈ fp, (L2.upd H2 D (.lst [])) b = none := fun b hb => (f3 b hb).1.1
  have loop := blk_loop (Y := X.blk t3 (L2.upd H2 D (.lst [])) scope (compEnvC scope (cellsFrom (t3.heap.objs.size + 1) scope.names (cloFrom X.env.cells scope.names [])) t3.heap.objs.size X.env) fp) (s := { t3 with heap := pushCells (t3.heap.push { cls := .type "dict", data := .dict #[] }) scope.names }) (iter := iter) (scope := scope) (D := D) (R := compPost (model X.prog X.w) X.A X.xe none (EP X pins σ Q) (.ref D) t3.heap.objs.size) (pos := pos) (Qd := fun H' => Q (.ref D) H') (m0 := m0) hc rfl rfl rfl T pg pt pe turn (fun t H5 I5 qd => ?_) ⟨by exact k3, 0, _, I4, st4, nfp, w0⟩
  · exact codeAny_compStart_list loop (T.self X.A 0 _ _ _ st4 loop)
  · -- back in the def
    have I6 : Inv X pins σ H5 t := I3.call' (ch := fp) I5.os I5.base I5.hok I5.bare fun b hb => ⟨(f3 b hb).1.2.2.2.1, (f3 b hb).1.2.1, (f3 b hb).1.2.2.2.2.1, (f3 b hb).1.2.2.2.2.2⟩
    have nC : H5 t3.heap.objs.size = none := I5.free
    obtain ⟨m, hn, _⟩ := I5.loc
    refine ⟨m, hn, fun h'' sb => ?_⟩
    obtain ⟨f0, f1, f4, f5, f6, f7⟩ := I3.fpOk (Nat.le_refl _) nC
    exact ⟨.ref D, H5, I6.turned (t' := t.toks) (fun b o hb e => (sb.2 b hb).trans e) f0 f1 f5 f6 f7, rfl, qd⟩
end
section
variable {X : Cx} {e o : Expr} {to te : TE} {pos apos : Pos}
/-- o.name(e), where o gives a token and e wants one -/
theorem pe_m1T {id : String} {name : Str} {r : V → List V → Hp → VK → Prop} (slot : Slot "str" name id) (ty : typeOf (.builtin id) = pure (.type "method_descriptor")) (rule : MtR X id r) (ho : PEb X o to) (he : L2.PET X e te)
    (hs : starEach [e] X.env = [(false, eval e X.env)] := by rfl) (hbase : attributeBase o name X.env (eval o X.env) = eval o X.env := by rfl) (hline : (apos.endLine == pos.line) = true := by rfl) :
    PE X (.Call (.Attribute o name apos) [e] [] pos) (tM1 r to te) := by
  refine ⟨fun pins s σ H Q I h => PySem.Call_method1 hbase hs hline (thn (ho pins s σ H _ I h) fun v t ⟨k1, x, H1, I1, r1, ⟨a, e1⟩, q1⟩ => ?_)⟩
  subst e1
  obtain ⟨tk, rfl⟩ := _root_.id r1
  refine ⟨"str", _, F.plainAttrs_str, slot, ty, typeIs_str _ _ _, (fun _ z => nomatch z), Calls.callWith_builtin rfl (Calls.evalArgs_plain (Calls.spliced_cons ?_))⟩
  exact thn (he pins t σ H1 _ k1 I1 q1) fun u t2 ⟨y, H2, I2, r2, q2⟩ => Calls.spliced_nil (rule pins t2 σ H2 _ [y] _ [u] Q I2 r1 (.cons r2 .nil) q2)
end
section
variable {σ : L2.St} {H : Hp} {ta : TE}
/-- e.replace(y, z), the written y not empty -/
theorem ev_replLL {l y z : List Nat} {s1 s2 : Str} (ha : Ev ta σ H (.str (S l))) (h1 : s1 = S y) (h2 : s2 = S z) (hy : y ≠ []) (hl : l.length ≤ 100000) (hz : z.length ≤ 8) : Ev (CwR.tReplC ta s1 s2) σ H (.str (S (StrLaws.replL y z l))) := fun H1 e Q q => by
  subst h1 h2
  refine ha H1 e _ fun H2 e2 => ⟨S l, rfl, ?_, ?_⟩
  · rw [S_len, S_len]
    have : (l.length + 1) * z.length ≤ 100001 * 8 := Nat.mul_le_mul (by omega) hz
    omega
  · have z1 : Txt.replace (S l) (S y) (S z) = S (StrLaws.replL y z l) := TL.ext_tl (StrLaws.replace_list (show 1 ≤ (S y).length by
      rw [S_len]
      exact List.length_pos_iff.mpr hy))
    rw [z1]
    exact q H2 e2
theorem el_splitG {tb : TE} {l z : List Nat} (ha : Ev ta σ H (.str (S l))) (hb : Ev tb σ H (.str (S z))) (hz : z ≠ []) (hz2 : z.all (· < 256) = true) (hl : l.length ≤ 90000) : EvL (tM1 rSplit ta tb) σ H ((TL.spl z 0 [] l).map fun p => V.str (S p)) := fun H1 e Q q =>
  ha H1 e _ fun H2 e2 => ⟨⟨_, rfl⟩, hb H2 (e.trans e2) _ fun H3 e3 => ⟨S l, S z, rfl, rfl, by
    rw [S_len]
    exact beq_eq_false_iff_ne.mpr fun w => hz (List.length_eq_zero_iff.mp w), sz_of (by rw [S_len]; omega), fun p hp => by
    rw [SX.split_S hz hz2, List.map_map]
    exact q p _ (fresh_back (e2.trans e3) hp) ((e2.trans e3).trans (Ex.new hp)) upd_same⟩⟩
theorem el_lcNM {K : PySem.W.Frag} {te tl : TE} {τ : Type} {ns : List τ} {g f : τ → V} {j : Nat} {vs : List Nat} (h : EvL tl σ H (ns.map g)) (hz : ns.length ≤ 40000) (hw : ∀ x, wipe ((wipe σ vs).set j (some x)) vs = wipe σ vs)
    (he : ∀ n ∈ ns, ∀ H1, Ex H H1 → Ev te ((wipe σ vs).set j (some (g n))) H1 (f n)) : EvL (tLc (iList K tl) (gName j) tYes te vs) σ H (ns.map f) := fun H1 e Q q =>
  lc_first (h H1 e _ fun p H2 np e2 hp => el_lcM (K := K) (a := p) (ev_c (v := .ref p)) (sq_of hp) hz hw (fun n hn H3 e3 => he n hn H3 ((e.trans e2).trans e3)) H2 (Ex.refl _) Q fun p' H3 np' e3 hp' => q p' H3 (fresh_back e2 np') (e2.trans e3) hp')
theorem ev_sumL {K : PySem.W.Frag} {tl : TE} {ns : List Int} (h : EvL tl σ H (ns.map V.int)) : Ev (tCB (rSum K) (tCons tl tNil)) σ H (.int ns.sum) := fun H1 e Q q =>
  h H1 e _ fun p H2 np e2 hp => ⟨p, ns, rfl, sq_of hp, q H2 e2⟩
/-- {a: b, c: d}.get(x, x), all texts -/
theorem ev_get2 {j : Nat} {x s1 s2 s3 s4 : Str} (h : σ[j]? = some (some (.str x))) : Ev (tDGet2 (tDisp [(tC (.str s1), tC (.str s2)), (tC (.str s3), tC (.str s4))]) (tVar j) (tVar j)) σ H (((valV (mergeK [] [(Sum.inr s1, .str s2), (Sum.inr s3, .str s4)]) (Sum.inr x : Key)).getD (.str x))) := fun H1 e Q q => by
  intro p hp
  refine ⟨upd_same, [(Sum.inr s1, .str s2), (Sum.inr s3, .str s4)], rfl, by show 2 ≤ 15; decide, p, rfl, ?_, _, h, _, h, _, dget_rd (.inl upd_same), ?_⟩
  · exact .inl ⟨_, .inl upd_same⟩
  · rw [upd_upd]
    exact q _ (Ex.new hp)
end
/-! ### == of two lists or of two dicts that hold tuples: equal -/
def rEqL (K : PySem.W.Frag) : R2 := fun x y H Q => ∃ n, n ≤ 60 ∧ EqR K H (EqW K H n) x y ∧ Q (.bl true) H
theorem op_eqL {X : Cx} (hu : X.A.units + 64 < cLine) : OpR X (compareOp .Eq) (rEqL X.K) := by
  intro pins s σ H x y v u Q I rx ry h
  obtain ⟨n, hn, he, q⟩ := h
  exact eqR_run I (A := X.A) (by omega) (eqW_run I n X.A.in1 (by show X.A.units + 1 + n < cLine; omega)) he rx ry _ _ ⟨.bl true, H, I, rfl, q⟩
end Kn

/-! Kw: what is never reached; enumerate(list, start=1); != of equal dicts that hold tuples. -/
namespace Kw
open PySem PySem.Spec PyProof.Rows L2 Evl SX Kn
/-! ### never reached -/
def tNo : TS := fun _ _ _ => False
theorem ps_never {X : Cx} {st : Stmt} : PS X st tNo := ⟨fun _ _ _ _ _ _ h => h.elim⟩
theorem pss_never {X : Cx} {sts : List Stmt} : PSs X sts tNo := ⟨fun _ _ _ _ _ _ h => h.elim⟩
/-! ### != of two dicts, equal -/
section
variable {X : Cx} {pins : List (Addr × Obj)} {σ : L2.St} {H : Hp} {s : Shared}
theorem neD_run {a b : Addr} {A : Around} {E Q : Value → Shared → Prop} {ks ls : List (Key × V)} {F : V → V → Prop} (I : Inv X pins σ H s) (hu : A.units < cLine) (ih : ∀ x y v u, F x y → RelV x v → RelV y u → SeqAt.EqP X.prog X.w A.in1 s v u true)
    (h1 : H a = some (.dK ks)) (h2 : H b = some (.dK ls)) (hl : ks.length = ls.length) (hp : ∀ p ∈ ks, ∃ u, valV ls p.1 = some u ∧ F p.2 u) (q : Q (.bool false) s) : wpAny (model X.prog X.w) A (richCompare .NotEq (.ref a) (.ref b)) Q E s := by
  obtain ⟨_, ya, va, ra, da⟩ := I.hok a _ h1
  obtain ⟨_, yb, vb, rb, db⟩ := I.hok b _ h2
  have hv : va.length = vb.length := by rw [← ra.length, hl, rb.length]
  have hh : PySem.W.KeqHitsP X.prog X.w A.in1 s vb va true := hits_run ih rb ra hp
  refine wpAny_richCompare_same_room (op := .NotEq) da.typeIs db.typeIs PySem.F.slot_dict_ne (wpAny_call_entry PySem.F.slot_dict_ne da.typeIs PySem.F.entry_dict_ne (b := Builtin.«dict.__ne__») ?_ (PySem.F.args_dict_ne_2 _ _)) hu
  show wpAny _ _ (Builtin.Dict.dictSlotArgs "__ne__" ⟨[Value.ref a, Value.ref b], []⟩ >>= _) _ _ s
  refine wpAny_bind ?_
  unfold Builtin.Dict.dictSlotArgs
  refine wpAny_bind (wpAny_notOrdered_dict da.typeIs ?_)
  show wpAny _ _ (pure (Value.ref a, Value.ref b)) _ _ s
  refine wpAny_pure (wpAny_bind (wpAny_isInstance (T := "dict") db.typeIs PySem.F.sub_dict_dict ?_))
  rw [show (!true) = false from rfl]
  simp only [Bool.false_eq_true, if_false]
  refine wpAny_bind (wpAny_pure (wpAny_bind (wpAny_pure (wpAny_bind (PySem.W.samePairsP ya yb da db (fun _ => hh) ?_)))))
  refine wpAny_pure ⟨_, rfl, (fun x => nomatch x), ?_⟩
  simpa [hv] using q
end
def rNeL (K : PySem.W.Frag) : R2 := fun x y H Q => ∃ n a b ks ls, n ≤ 60 ∧ x = .ref a ∧ y = .ref b ∧ H a = some (.dK ks) ∧ H b = some (.dK ls) ∧ ks.length = ls.length ∧ (∀ p ∈ ks, ∃ u, valV ls p.1 = some u ∧ EqW K H n p.2 u) ∧ Q (.bl false) H
theorem op_neL {X : Cx} (hu : X.A.units + 64 < cLine) : OpR X (compareOp .NotEq) (rNeL X.K) := by
  intro pins s σ H x y v u Q I rx ry h
  obtain ⟨n, a, b, ks, ls, hn, rfl, rfl, ha, hb, hl, hp, q⟩ := h
  cases (show v = Value.ref a from rx)
  cases (show u = Value.ref b from ry)
  exact neD_run I (A := X.A) (by omega) (eqW_run I n X.A.in1 (by show X.A.units + 1 + n < cLine; omega)) ha hb hl hp ⟨.bl false, H, I, rfl, q⟩
end Kw
/-! ### enumerate(list, start=1) -/
namespace Kw
open PySem PySem.Spec PyProof.Rows L2 Evl SX Kn
def Ite1 (K : PySem.W.Frag) (a : Addr) : It where
  go := fun i H => ∃ xs x, SqL K H a xs ∧ xs[i]? = some x
  yld := fun i H v H' => ∃ T x, v = .ref T ∧ H T = none ∧ H' = upd H T (.tup [.int ((i : Int) + 1), x]) ∧ ∀ xs, SqL K H a xs → xs[i]? = some x
  stop := fun i H => ∃ xs : List V, SqL K H a xs ∧ xs.length ≤ i
theorem ne_obj {h : Heap} {a b : Addr} {o u : Obj} (h1 : h.get? a = some o) (h2 : h.get? b = some u) (d : o.cls ≠ u.cls) : a ≠ b := fun e => by
  rw [e, h2] at h1
  exact d (by rw [Option.some.inj h1])
theorem turn_enum1 {P : Program} {w : World} {K : PySem.W.Frag} {elts : List Expr} {kk : Nat} {tpos : Pos} (a e it : Addr) : Turn P w K (.Tuple elts kk tpos) (Ite1 K a) [e, it] e (fun i h => (∃ old, IsEnum h e it ((i : Int) + 1) old) ∧ h.IsListIter it a i ∧ e ≠ it) := by
  refine ⟨by simp, fun i h st b hb => ?_, fun i h h' st k => ?_, ?_, ?_, fun A i s Q E st h => ?_⟩
  · obtain ⟨⟨old, he⟩, ⟨o, ho, _, hd⟩, _⟩ := st
    rcases List.mem_cons.1 hb with rfl | hb
    · exact ⟨_, he, fun v q => by cases q⟩
    · rw [List.mem_singleton.1 hb]
      exact ⟨o, ho, fun v q => by rw [hd] at q; cases q⟩
  · obtain ⟨⟨old, he⟩, hi, hne⟩ := st
    exact ⟨⟨old, k e (by simp) _ he⟩, hi.at (fun o q => k it (by simp) o q), hne⟩
  · intro X hP hw hK hc i pins s σ H E I hf st hg
    subst hP hw hK
    obtain ⟨⟨old, he⟩, hit, hne⟩ := st
    obtain ⟨xs, x, hq, hx⟩ := hg
    obtain ⟨its, rv, p, _⟩ := I.list hq
    obtain ⟨u, hu, ru⟩ := rv.get hx
    have hlt : i < its.toArray.size := by
      rw [List.size_toArray]
      exact (List.getElem?_eq_some_iff.1 hu).1
    have hea : e ≠ a := by
      obtain ⟨o, ho, h1, _⟩ := p.isList
      exact ne_obj he ho (by rw [h1]; intro z; injection z with z; exact absurd z (by decide))
    have hia : a ≠ it := by
      obtain ⟨o, ho, h1, _⟩ := p.isList
      obtain ⟨o2, ho2, h2, _⟩ := hit
      exact ne_obj ho ho2 (by rw [h1, h2]; intro z; injection z with z; exact absurd z (by decide))
    have el := Heap.lt_size he
    have il : it < s.heap.objs.size := by
      obtain ⟨o2, ho2, _⟩ := hit
      exact Heap.lt_size ho2
    refine wpAny_pyNext_enum_itemC (A := X.A) (Draws.list (A := X.A.in1) (show X.A.in1.handled = none from I.ok.hd hc) it a hia its.toArray) he ⟨hit, p.isList⟩ hlt hne (by simp [hne, hea]) fun x' h' tk hx' ho hst' hT hsz hk => ?_
    have ex : x' = u := by
      rw [List.getElem?_toArray, hu] at hx'
      exact (Option.some.inj hx').symm
    subst ex
    refine ⟨_, rfl, wpAny_letOwnedTupleGo_enum (s := ⟨h', s.gens, s.drawn, tk + 1, s.os⟩) ho fun h2 he2 sb => ?_⟩
    have T2 := (sb.2 s.heap.objs.size (Nat.ne_of_gt el)).trans hT
    have nw : ObjOk X.prog X.w (upd H s.heap.objs.size (.tup [.int ((i : Int) + 1), x])) h2 s.heap.objs.size (.tup [.int ((i : Int) + 1), x]) :=
      ⟨by show 2 ≤ sizeLine; decide, [.int ((i : Int) + 1) tk, x'], .cons ⟨_, rfl⟩ (.cons ru .nil), _, T2, rfl, _, rfl⟩
    have I1 : Inv X pins σ (upd H s.heap.objs.size (.tup [.int ((i : Int) + 1), x])) ⟨h2, s.gens, s.drawn, tk + 1, s.os⟩ := by
      refine I.turnedNew (ch := [e, it]) (fun b ob hb q => ?_) hf (Nat.le_refl _) nw
      have b1 : b ≠ e := fun z => hb (by simp [z])
      have b2 : b ≠ it := fun z => hb (by simp [z])
      rw [sb.2 b b1]
      exact hk b ob b1 b2 q
    refine ⟨.ref s.heap.objs.size, _, I1, rfl, ⟨_, x, rfl, I.hok.fresh (Nat.le_refl _), rfl, fun ys hy => by rw [I.list_inj hy hq]; exact hx⟩, ⟨⟨x', ?_⟩, hst'.1.at (fun o q => (sb.2 it (Ne.symm hne)).trans q), hne⟩, fun b hb => ?_⟩
    · rw [show (((i + 1 : Nat) : Int) + 1) = (i : Int) + 1 + 1 by omega]
      exact he2
    · have bl : b < s.heap.objs.size := by
        rcases List.mem_cons.1 hb with z | z
        · rw [z]; exact el
        · rw [List.mem_singleton.1 z]; exact il
      rw [upd_ne (Nat.ne_of_lt bl)]
      exact (hf b hb).1
  · intro X hP hw hK hc i pins s σ H E I hf st hg
    subst hP hw hK
    obtain ⟨⟨old, he⟩, hit, hne⟩ := st
    obtain ⟨xs, hq, hx⟩ := hg
    obtain ⟨its, rv, p, _⟩ := I.list hq
    obtain ⟨f0, f1, f2, f3, f4, f5⟩ := hf it (by simp)
    have hia : a ≠ it := by
      obtain ⟨o, ho, h1, _⟩ := p.isList
      obtain ⟨o2, ho2, h2, _⟩ := hit
      exact ne_obj ho ho2 (by rw [h1, h2]; intro z; injection z with z; exact absurd z (by decide))
    have hend : its.toArray[i]? = none := by
      rw [List.getElem?_toArray]
      exact List.getElem?_eq_none (by rw [← rv.length]; exact hx)
    have D : Draws X.prog X.w X.A.in1 it [it, a] i (fun _ _ => False) (fun j h => j = i ∧ h.IsListIter it a i ∧ h.IsList a its.toArray) :=
      ⟨fun _ _ ⟨_, ⟨o, ho, _⟩, _⟩ => ⟨o, ho⟩, fun _ _ _ ⟨e1, e2, e3⟩ hk => ⟨e1, e2.at (fun o q => hk it (by simp) o q), e3.at (fun o q => hk a (by simp) o q)⟩, fun j s Q E hj st => absurd st.1 (Nat.ne_of_lt hj),
        fun s Q E st hE => wpAny_nextOf_list_end (show X.A.in1.handled = none from I.ok.hd hc) st.2.1 st.2.2 hend hE⟩
    exact wpAny_pyNext_enum_endD D he ⟨rfl, hit, p.isList⟩ fun h' eb => ⟨rfl, I.turned (t' := s.toks) (fun b o hb q => eb b o hb q) f0 f1 f3 f4 f5⟩
  · obtain ⟨⟨_, he⟩, _⟩ := st
    exact wpAny_pyIter_enum he h
theorem cw_typeK {M : Model} {A : Around} {E : Value → Shared → Prop} {s : Shared} {pos : Pos} {T : String} {first : List Value} {args : List (Bool × Sem Value)} {kw : List (Option Str × Sem Value)} {Q : Value → Shared → Prop} (ha : args.any (·.1) = false) (hk : kw.any (·.1.isNone) = false)
    (h : wpAny M A (evalArgs (.type T) true args kw) (fun a s1 => wpAny M A (call (.type T) (first ++ a.pos) a.kw) Q E s1) E s) : wpAny M A (callWith pos (.type T) first args kw) Q E s := by
  unfold callWith
  refine wpAny_bind (wpAny_holding (wpAny_mono h (fun a s1 h1 => wpAny_bind (wpAny_standAt ?_)) fun _ _ z => z))
  simp only [ha, hk, Bool.or_false]
  refine wpAny_bind (wpAny_pure (wpAny_bind (wpAny_mono h1 (fun r s2 hr => wpAny_bind (wpAny_holding (wpAny_point (wpAny_pure hr)))) fun _ _ z => z)))
def iEnum1 (K : PySem.W.Frag) (ta tk : TA) : TI := fun σ H R => ta σ H fun vs H1 => tk σ H1 fun zs H2 => ∃ a xs, vs = [.ref a] ∧ zs = [.int 1] ∧ SqL K H2 a xs ∧ R (Ite1 K a) H2
theorem pi_enum1 {X : Cx} {e : Expr} {ta tk : TA} {kws : List Keyword} {p pos tpos : Pos} {elts : List Expr} {kk : Nat} (hg : Gl X "enumerate") (hm : X.mg "enumerate" = none) (ha : PA X [e] ta) (hk : PK X kws tk)
    (he : backTo pos (starEach [e] X.env) = (false, eval e X.env) :: backTo pos (starEach [] X.env) := by rfl) (hpl : (backTo pos (starEach [e] X.env)).any (·.1) = false := by rfl)
    (hall : (backToKw pos (keywordEach kws X.env)).all (·.1.isSome) = true := by rfl) (hnone : (backToKw pos (keywordEach kws X.env)).any (·.1.isNone) = false := by rfl) (hks : (backToKw pos (keywordEach kws X.env)).filterMap (·.1) = [Str.ofString "start"] := by rfl) :
    PI X (.Tuple elts kk tpos) (.Call (.Name "enumerate" p) [e] kws pos) (iEnum1 X.K ta tk) := by
  refine ⟨fun pins s σ H R I h => ?_⟩
  refine wpAny_Call_Name_kw (ld_blt I hg hm boot_enumerate (cw_typeK hpl hnone ?_))
  have h2 := ha.run pos pins s σ H _ I h
  rw [he] at h2 ⊢
  refine evalArgs_kwB hall (thn h2 fun us s1 ⟨vs, H1, I1, r1, q1⟩ => thn (hk.run pos pins s1 σ H1 _ I1 q1) fun ws s2 ⟨zs, H2, I2, r2, a, xs, ev, ez, hq, q⟩ => ?_)
  subst ev ez
  rw [hks]
  obtain rfl := Vals.ref1 r1
  obtain ⟨w1, rfl, e1⟩ := vals1 r2
  obtain ⟨t, rfl⟩ := e1
  obtain ⟨its, rv, p', hz⟩ := I2.list hq
  refine enum_begins_start (begins_list a its.toArray) p'.isList (by decide) (by decide) fun h' he hit hsz hk => wpAny_pyIter_enum he ?_
  have I3 : Inv X pins σ H2 ⟨h', s2.gens, s2.drawn, s2.toks, s2.os⟩ := I2.kept (t' := s2.toks) hk
  refine ⟨s2.heap.objs.size + 1, [s2.heap.objs.size + 1, s2.heap.objs.size], _, _, H2, rfl, I3, turn_enum1 a _ s2.heap.objs.size, ⟨⟨.none, he⟩, ⟨_, hit, rfl, rfl⟩, Nat.succ_ne_self _⟩, fun b hb => ?_, q⟩
  have hle : s2.heap.objs.size ≤ b := by
    rcases List.mem_cons.1 hb with z | z
    · rw [z]; exact Nat.le_succ _
    · rw [List.mem_singleton.1 z]; exact Nat.le_refl _
  exact I2.fpOk hle (I2.hok.fresh hle)
theorem walk_enum1 {K : PySem.W.Frag} {a : Addr} {xs : List V} : Walk (Ite1 K a) xs.length (fun H => SqL K H a xs) (YPair (fun i => some (.int ((i : Int) + 1))) (fun i => xs[i]?)) := by
  refine ⟨fun i _ hi q => ⟨xs, xs[i], q, by simp [hi]⟩, fun _ q => ⟨xs, q, Nat.le_refl _⟩, fun i H v H' _ q ⟨T, x, y1, y2, y3, y4⟩ => ?_⟩
  exact ⟨T, .int ((i : Int) + 1), x, y1, y2, y3, rfl, y4 xs q⟩
theorem q_forEn1 {K : PySem.W.Frag} {σ : L2.St} {H : Hp} {D : Ends} {tu tz : TS} {tk : TA} {xs : List V} {tl : TE} {i j : Nat} (h : EvL tl σ H xs) (hk : ∀ H1, EvA tk σ H1 [.int 1]) (Pv : Addr → Nat → L2.St → Hp → Prop) (h0 : ∀ a H1, H a = none → Ex H H1 → H1 a = some (.lst xs) → Pv a 0 σ H1) (hl : ∀ a n σ' H', n ≤ xs.length → Pv a n σ' H' → SqL K H' a xs)
    (hs : ∀ a n x σ' H' H2, xs[n]? = some x → Pv a n σ' H' → Ex H' H2 → tu { D with nx := Pv a (n + 1), ct := Pv a (n + 1), bk := tz D } ((σ'.set i (some (.int ((n : Int) + 1)))).set j (some x)) H2) (hd : ∀ a σ' H', Pv a xs.length σ' H' → tz D σ' H') :
    tSeq (tFor (iEnum1 K (tCons tl tNil) tk) (gTup K 2 (gCons (gName i) (gCons (gName j) gNil))) tu) tz D σ H :=
  h H (Ex.refl H) _ fun a H1 na e ha => hk H1 H1 (Ex.refl H1) _ fun H2 e2 => ⟨a, xs, rfl, rfl, sq_of (e2 _ _ ha), for_it (D := { D with nx := tz D }) walk_enum1 (Pv a) (h0 a H2 na (e.trans e2) (e2 _ _ ha)) (hl a) (fun n v σ' H2 H3 hn p y => by
    obtain ⟨T, u, w, rfl, nT, rfl, hu, hw⟩ := y
    cases hu
    exact unp2 upd_same (hs a n w σ' H2 _ hw p (Ex.new nT))) (hd a)⟩
end Kw

namespace My
open PySem PySem.Spec PyProof.Rows L2 Evl SX Kn Kn.Rp Kw
def topS (i : Nat) : Stmt := PySem.Challenge.pw_kilnyard_k38_saved_stores.main.body.getD i (.Pass ⟨0, 0, 0, 0⟩)
abbrev s__wall : Stmt := topS 0
abbrev N__wall : List Str := ["k"]
theorem sc__wall : FnScope N__wall ["k"] (defScope s__wall) := ⟨rfl, rfl, rfl, by decide +kernel, rfl, by decide +kernel, by decide +kernel⟩
abbrev s_is_text : Stmt := topS 14
abbrev N_is_text : List Str := ["value", "sign"]
theorem sc_is_text : FnScope N_is_text ["value"] (defScope s_is_text) := ⟨rfl, rfl, rfl, by decide +kernel, rfl, by decide +kernel, by decide +kernel⟩
abbrev s_content_key : Stmt := topS 15
abbrev N_content_key : List Str := ["text", "sign"]
theorem sc_content_key : FnScope N_content_key ["text"] (defScope s_content_key) := ⟨rfl, rfl, rfl, by decide +kernel, rfl, by decide +kernel, by decide +kernel⟩
abbrev s_key_text : Stmt := topS 16
abbrev N_key_text : List Str := ["key", "codes", "code"]
theorem sc_key_text : FnScope N_key_text ["key"] (defScope s_key_text) := ⟨rfl, rfl, rfl, by decide +kernel, rfl, by decide +kernel, by decide +kernel⟩
abbrev s__is_code : Stmt := topS 17
abbrev N__is_code : List Str := ["code"]
theorem sc__is_code : FnScope N__is_code ["code"] (defScope s__is_code) := ⟨rfl, rfl, rfl, by decide +kernel, rfl, by decide +kernel, by decide +kernel⟩
abbrev s__codes : Stmt := topS 18
abbrev N__codes : List Str := ["key", "bits", "at"]
theorem sc__codes : FnScope N__codes ["key"] (defScope s__codes) := ⟨rfl, rfl, rfl, by decide +kernel, rfl, by decide +kernel, by decide +kernel⟩
abbrev s__sign : Stmt := topS 19
abbrev N__sign : List Str := ["code"]
theorem sc__sign : FnScope N__sign ["code"] (defScope s__sign) := ⟨rfl, rfl, rfl, by decide +kernel, rfl, by decide +kernel, by decide +kernel⟩
abbrev s_format_string : Stmt := topS 22
abbrev N_format_string : List Str := ["text", "escaped"]
theorem sc_format_string : FnScope N_format_string ["text"] (defScope s_format_string) := ⟨rfl, rfl, rfl, by decide +kernel, rfl, by decide +kernel, by decide +kernel⟩
abbrev s_format_expression : Stmt := topS 23
abbrev N_format_expression : List Str := ["expression", "form", "arguments", "argument", "term"]
theorem sc_format_expression : FnScope N_format_expression ["expression"] (defScope s_format_expression) := ⟨rfl, rfl, rfl, by decide +kernel, rfl, by decide +kernel, by decide +kernel⟩
abbrev s_format_rule : Stmt := topS 24
abbrev N_format_rule : List Str := ["rule", "word", "head"]
theorem sc_format_rule : FnScope N_format_rule ["rule"] (defScope s_format_rule) := ⟨rfl, rfl, rfl, by decide +kernel, rfl, by decide +kernel, by decide +kernel⟩
abbrev s__body_lines : Stmt := topS 25
abbrev N__body_lines : List Str := ["body", "indent", "lines", "statement"]
theorem sc__body_lines : FnScope N__body_lines ["body", "indent"] (defScope s__body_lines) := ⟨rfl, rfl, rfl, by decide +kernel, rfl, by decide +kernel, by decide +kernel⟩
abbrev s__first_line : Stmt := topS 26
abbrev N__first_line : List Str := ["statement", "word"]
theorem sc__first_line : FnScope N__first_line ["statement"] (defScope s__first_line) := ⟨rfl, rfl, rfl, by decide +kernel, rfl, by decide +kernel, by decide +kernel⟩
abbrev s__block_lines : Stmt := topS 27
abbrev N__block_lines : List Str := ["statement", "indent", "lines"]
theorem sc__block_lines : FnScope N__block_lines ["statement", "indent"] (defScope s__block_lines) := ⟨rfl, rfl, rfl, by decide +kernel, rfl, by decide +kernel, by decide +kernel⟩
abbrev s_scan_line : Stmt := topS 37
abbrev N_scan_line : List Str := ["path", "number", "line", "tokens", "at", "kind", "text", "behind"]
theorem sc_scan_line : FnScope N_scan_line ["path", "number", "line"] (defScope s_scan_line) := ⟨rfl, rfl, rfl, by decide +kernel, rfl, by decide +kernel, by decide +kernel⟩
abbrev s_is_identifier : Stmt := topS 38
abbrev N_is_identifier : List Str := ["value", "sign"]
theorem sc_is_identifier : FnScope N_is_identifier ["value"] (defScope s_is_identifier) := ⟨rfl, rfl, rfl, by decide +kernel, rfl, by decide +kernel, by decide +kernel⟩
abbrev s__skip_spaces : Stmt := topS 39
abbrev N__skip_spaces : List Str := ["line", "start", "at"]
theorem sc__skip_spaces : FnScope N__skip_spaces ["line", "start"] (defScope s__skip_spaces) := ⟨rfl, rfl, rfl, by decide +kernel, rfl, by decide +kernel, by decide +kernel⟩
abbrev s__token : Stmt := topS 40
abbrev N__token : List Str := ["path", "number", "line", "start", "text", "behind"]
theorem sc__token : FnScope N__token ["path", "number", "line", "start"] (defScope s__token) := ⟨rfl, rfl, rfl, by decide +kernel, rfl, by decide +kernel, by decide +kernel⟩
abbrev s__string : Stmt := topS 41
abbrev N__string : List Str := ["path", "number", "line", "start", "parts", "at", "part"]
theorem sc__string : FnScope N__string ["path", "number", "line", "start"] (defScope s__string) := ⟨rfl, rfl, rfl, by decide +kernel, rfl, by decide +kernel, by decide +kernel⟩
abbrev s__string_part : Stmt := topS 42
abbrev N__string_part : List Str := ["path", "number", "line", "at", "sign"]
theorem sc__string_part : FnScope N__string_part ["path", "number", "line", "at"] (defScope s__string_part) := ⟨rfl, rfl, rfl, by decide +kernel, rfl, by decide +kernel, by decide +kernel⟩
abbrev s_is_path : Stmt := topS 47
abbrev N_is_path : List Str := ["value", "names", "name"]
theorem sc_is_path : FnScope N_is_path ["value"] (defScope s_is_path) := ⟨rfl, rfl, rfl, by decide +kernel, rfl, by decide +kernel, by decide +kernel⟩
abbrev s_is_pattern : Stmt := topS 48
abbrev N_is_pattern : List Str := ["value"]
theorem sc_is_pattern : FnScope N_is_pattern ["value"] (defScope s_is_pattern) := ⟨rfl, rfl, rfl, by decide +kernel, rfl, by decide +kernel, by decide +kernel⟩
abbrev s_is_name_pattern : Stmt := topS 49
abbrev N_is_name_pattern : List Str := ["value"]
theorem sc_is_name_pattern : FnScope N_is_name_pattern ["value"] (defScope s_is_name_pattern) := ⟨rfl, rfl, rfl, by decide +kernel, rfl, by decide +kernel, by decide +kernel⟩
abbrev s_fill : Stmt := topS 50
abbrev N_fill : List Str := ["pattern", "stem", "path"]
theorem sc_fill : FnScope N_fill ["pattern", "stem"] (defScope s_fill) := ⟨rfl, rfl, rfl, by decide +kernel, rfl, by decide +kernel, by decide +kernel⟩
abbrev s__is_name : Stmt := topS 51
abbrev N__is_name : List Str := ["name", "sign"]
theorem sc__is_name : FnScope N__is_name ["name"] (defScope s__is_name) := ⟨rfl, rfl, rfl, by decide +kernel, rfl, by decide +kernel, by decide +kernel⟩
abbrev s_question : Stmt := topS 65
abbrev N_question : List Str := ["need"]
theorem sc_question : FnScope N_question ["need"] (defScope s_question) := ⟨rfl, rfl, rfl, by decide +kernel, rfl, by decide +kernel, by decide +kernel⟩
abbrev s_format_record : Stmt := topS 66
abbrev N_format_record : List Str := ["record", "needs", "results", "words", "need", "key"]
theorem sc_format_record : FnScope N_format_record ["record"] (defScope s_format_record) := ⟨rfl, rfl, rfl, by decide +kernel, rfl, by decide +kernel, by decide +kernel⟩
abbrev s_parse_record : Stmt := topS 67
abbrev N_parse_record : List Str := ["line", "words", "outputs", "needs", "results", "word"]
theorem sc_parse_record : FnScope N_parse_record ["line"] (defScope s_parse_record) := ⟨rfl, rfl, rfl, by decide +kernel, rfl, by decide +kernel, by decide +kernel⟩
abbrev s__format_need : Stmt := topS 68
abbrev N__format_need : List Str := ["need"]
theorem sc__format_need : FnScope N__format_need ["need"] (defScope s__format_need) := ⟨rfl, rfl, rfl, by decide +kernel, rfl, by decide +kernel, by decide +kernel⟩
abbrev s__format_seen : Stmt := topS 69
abbrev N__format_seen : List Str := ["seen"]
theorem sc__format_seen : FnScope N__format_seen ["seen"] (defScope s__format_seen) := ⟨rfl, rfl, rfl, by decide +kernel, rfl, by decide +kernel, by decide +kernel⟩
abbrev s__parse_need : Stmt := topS 70
abbrev N__parse_need : List Str := ["word", "items"]
theorem sc__parse_need : FnScope N__parse_need ["word"] (defScope s__parse_need) := ⟨rfl, rfl, rfl, by decide +kernel, rfl, by decide +kernel, by decide +kernel⟩
abbrev s__parse_seen : Stmt := topS 71
abbrev N__parse_seen : List Str := ["word"]
theorem sc__parse_seen : FnScope N__parse_seen ["word"] (defScope s__parse_seen) := ⟨rfl, rfl, rfl, by decide +kernel, rfl, by decide +kernel, by decide +kernel⟩
abbrev s__are_outputs : Stmt := topS 72
abbrev N__are_outputs : List Str := ["words", "word"]
theorem sc__are_outputs : FnScope N__are_outputs ["words"] (defScope s__are_outputs) := ⟨rfl, rfl, rfl, by decide +kernel, rfl, by decide +kernel, by decide +kernel⟩
abbrev s__are_needs : Stmt := topS 73
abbrev N__are_needs : List Str := ["words", "questions", "word"]
theorem sc__are_needs : FnScope N__are_needs ["words"] (defScope s__are_needs) := ⟨rfl, rfl, rfl, by decide +kernel, rfl, by decide +kernel, by decide +kernel⟩
abbrev s__is_need : Stmt := topS 74
abbrev N__is_need : List Str := ["word", "items", "kind", "seen"]
theorem sc__is_need : FnScope N__is_need ["word"] (defScope s__is_need) := ⟨rfl, rfl, rfl, by decide +kernel, rfl, by decide +kernel, by decide +kernel⟩
abbrev s__is_folder : Stmt := topS 75
abbrev N__is_folder : List Str := ["word"]
theorem sc__is_folder : FnScope N__is_folder ["word"] (defScope s__is_folder) := ⟨rfl, rfl, rfl, by decide +kernel, rfl, by decide +kernel, by decide +kernel⟩
abbrev s__is_number_or_nothing : Stmt := topS 76
abbrev N__is_number_or_nothing : List Str := ["word"]
theorem sc__is_number_or_nothing : FnScope N__is_number_or_nothing ["word"] (defScope s__is_number_or_nothing) := ⟨rfl, rfl, rfl, by decide +kernel, rfl, by decide +kernel, by decide +kernel⟩
abbrev s__is_number : Stmt := topS 94
abbrev N__is_number : List Str := ["word"]
theorem sc__is_number : FnScope N__is_number ["word"] (defScope s__is_number) := ⟨rfl, rfl, rfl, by decide +kernel, rfl, by decide +kernel, by decide +kernel⟩
abbrev s__read_row : Stmt := topS 81
abbrev N__read_row : List Str := ["row", "key", "line"]
theorem sc__read_row : FnScope N__read_row ["row"] (defScope s__read_row) := ⟨rfl, rfl, rfl, by decide +kernel, rfl, by decide +kernel, by decide +kernel⟩
abbrev s_lines_of : Stmt := topS 83
abbrev N_lines_of : List Str := ["text"]
theorem sc_lines_of : FnScope N_lines_of ["text"] (defScope s_lines_of) := ⟨rfl, rfl, rfl, by decide +kernel, rfl, by decide +kernel, by decide +kernel⟩
abbrev s_save_store : Stmt := topS 87
abbrev N_save_store : List Str := ["store", "texts", "lines", "index", "row", "key"]
theorem sc_save_store : FnScope N_save_store ["store"] (defScope s_save_store) := ⟨rfl, rfl, rfl, by decide +kernel, rfl, by decide +kernel, by decide +kernel⟩
abbrev s_load_store : Stmt := topS 88
abbrev N_load_store : List Str := ["text", "reader", "lines", "number", "line", "store", "index"]
theorem sc_load_store : FnScope N_load_store ["text"] (defScope s_load_store) := ⟨rfl, rfl, rfl, by decide +kernel, rfl, by decide +kernel, by decide +kernel⟩
abbrev s__content_line : Stmt := topS 90
abbrev N__content_line : List Str := ["right", "kept"]
theorem sc__content_line : FnScope N__content_line ["right", "kept"] (defScope s__content_line) := ⟨rfl, rfl, rfl, by decide +kernel, rfl, by decide +kernel, by decide +kernel⟩
abbrev s__row_line : Stmt := topS 91
abbrev N__row_line : List Str := ["index", "right", "kept"]
theorem sc__row_line : FnScope N__row_line ["index", "right", "kept"] (defScope s__row_line) := ⟨rfl, rfl, rfl, by decide +kernel, rfl, by decide +kernel, by decide +kernel⟩
abbrev s__count_line : Stmt := topS 92
abbrev N__count_line : List Str := ["count"]
theorem sc__count_line : FnScope N__count_line ["count"] (defScope s__count_line) := ⟨rfl, rfl, rfl, by decide +kernel, rfl, by decide +kernel, by decide +kernel⟩
abbrev s__parts : Stmt := topS 93
abbrev N__parts : List Str := ["line", "_", "text"]
theorem sc__parts : FnScope N__parts ["line"] (defScope s__parts) := ⟨rfl, rfl, rfl, by decide +kernel, rfl, by decide +kernel, by decide +kernel⟩
abbrev s_make_job : Stmt := topS 101
abbrev N_make_job : List Str := ["book", "rule", "stem", "outputs", "inputs", "pattern"]
theorem sc_make_job : FnScope N_make_job ["book", "rule", "stem"] (defScope s_make_job) := ⟨rfl, rfl, rfl, by decide +kernel, rfl, by decide +kernel, by decide +kernel⟩
abbrev s_rule_text : Stmt := topS 102
abbrev N_rule_text : List Str := ["book", "job"]
theorem sc_rule_text : FnScope N_rule_text ["book", "job"] (defScope s_rule_text) := ⟨rfl, rfl, rfl, by decide +kernel, rfl, by decide +kernel, by decide +kernel⟩
abbrev s_rule_key : Stmt := topS 103
abbrev N_rule_key : List Str := ["book", "job"]
theorem sc_rule_key : FnScope N_rule_key ["book", "job"] (defScope s_rule_key) := ⟨rfl, rfl, rfl, by decide +kernel, rfl, by decide +kernel, by decide +kernel⟩
abbrev s__law_cell : Stmt := topS 105
abbrev N__law_cell : List Str := ["script", "k"]
theorem sc__law_cell : FnScope N__law_cell ["script", "k"] (defScope s__law_cell) := ⟨rfl, rfl, rfl, by decide +kernel, rfl, by decide +kernel, by decide +kernel⟩
abbrev s__law_make_store : Stmt := topS 106
abbrev N__law_make_store : List Str := ["script", "at", "book", "jobs", "store", "texts", "k", "cell", "job", "key", "outputs", "results", "j", "needs", "keys", "index"]
theorem sc__law_make_store : FnScope N__law_make_store ["script", "at", "book", "jobs"] (defScope s__law_make_store) := ⟨rfl, rfl, rfl, by decide +kernel, rfl, by decide +kernel, by decide +kernel⟩
abbrev s__law_string : Stmt := topS 107
abbrev N__law_string : List Str := ["text"]
theorem sc__law_string : FnScope N__law_string ["text"] (defScope s__law_string) := ⟨rfl, rfl, rfl, by decide +kernel, rfl, by decide +kernel, by decide +kernel⟩
abbrev s_law : Stmt := topS 108
abbrev N_law : List Str := ["script", "book", "store", "texts", "rows", "lines", "key", "index", "line", "saved", "back"]
theorem sc_law : FnScope N_law ["script"] (defScope s_law) := ⟨rfl, rfl, rfl, by decide +kernel, rfl, by decide +kernel, by decide +kernel⟩
abbrev s_InvalidKey___init__ : Stmt := inClass (topS 3) 0
abbrev N_InvalidKey___init__ : List Str := ["self", "key"]
theorem sc_InvalidKey___init__ : FnScope N_InvalidKey___init__ ["self", "key"] (defScope s_InvalidKey___init__) := ⟨rfl, rfl, rfl, by decide +kernel, rfl, by decide +kernel, by decide +kernel⟩
abbrev s_InvalidPath___init__ : Stmt := inClass (topS 4) 0
abbrev N_InvalidPath___init__ : List Str := ["self", "path"]
theorem sc_InvalidPath___init__ : FnScope N_InvalidPath___init__ ["self", "path"] (defScope s_InvalidPath___init__) := ⟨rfl, rfl, rfl, by decide +kernel, rfl, by decide +kernel, by decide +kernel⟩
abbrev s_InvalidRecipe___init__ : Stmt := inClass (topS 5) 0
abbrev N_InvalidRecipe___init__ : List Str := ["self", "path", "line", "column", "reason"]
theorem sc_InvalidRecipe___init__ : FnScope N_InvalidRecipe___init__ ["self", "path", "line", "column", "reason"] (defScope s_InvalidRecipe___init__) := ⟨rfl, rfl, rfl, by decide +kernel, rfl, by decide +kernel, by decide +kernel⟩
abbrev s_InvalidRecord___init__ : Stmt := inClass (topS 53) 0
abbrev N_InvalidRecord___init__ : List Str := ["self", "line"]
theorem sc_InvalidRecord___init__ : FnScope N_InvalidRecord___init__ ["self", "line"] (defScope s_InvalidRecord___init__) := ⟨rfl, rfl, rfl, by decide +kernel, rfl, by decide +kernel, by decide +kernel⟩
abbrev s_MissingContent___init__ : Stmt := inClass (topS 54) 0
abbrev N_MissingContent___init__ : List Str := ["self", "key"]
theorem sc_MissingContent___init__ : FnScope N_MissingContent___init__ ["self", "key"] (defScope s_MissingContent___init__) := ⟨rfl, rfl, rfl, by decide +kernel, rfl, by decide +kernel, by decide +kernel⟩
abbrev s_NoSuchRecord___init__ : Stmt := inClass (topS 55) 0
abbrev N_NoSuchRecord___init__ : List Str := ["self", "index"]
theorem sc_NoSuchRecord___init__ : FnScope N_NoSuchRecord___init__ ["self", "index"] (defScope s_NoSuchRecord___init__) := ⟨rfl, rfl, rfl, by decide +kernel, rfl, by decide +kernel, by decide +kernel⟩
abbrev s_DamagedRecord___init__ : Stmt := inClass (topS 56) 0
abbrev N_DamagedRecord___init__ : List Str := ["self", "index"]
theorem sc_DamagedRecord___init__ : FnScope N_DamagedRecord___init__ ["self", "index"] (defScope s_DamagedRecord___init__) := ⟨rfl, rfl, rfl, by decide +kernel, rfl, by decide +kernel, by decide +kernel⟩
abbrev s_Record___init__ : Stmt := inClass (topS 64) 0
abbrev N_Record___init__ : List Str := ["self", "outputs", "rule_key", "needs", "results"]
theorem sc_Record___init__ : FnScope N_Record___init__ ["self", "outputs", "rule_key", "needs", "results"] (defScope s_Record___init__) := ⟨rfl, rfl, rfl, by decide +kernel, rfl, by decide +kernel, by decide +kernel⟩
abbrev s_Record___eq__ : Stmt := inClass (topS 64) 1
abbrev N_Record___eq__ : List Str := ["self", "other"]
theorem sc_Record___eq__ : FnScope N_Record___eq__ ["self", "other"] (defScope s_Record___eq__) := ⟨rfl, rfl, rfl, by decide +kernel, rfl, by decide +kernel, by decide +kernel⟩
abbrev s_Store___init__ : Stmt := inClass (topS 80) 0
abbrev N_Store___init__ : List Str := ["self", "journal"]
theorem sc_Store___init__ : FnScope N_Store___init__ ["self", "journal"] (defScope s_Store___init__) := ⟨rfl, rfl, rfl, by decide +kernel, rfl, by decide +kernel, by decide +kernel⟩
abbrev s_Store_put_content : Stmt := inClass (topS 80) 1
abbrev N_Store_put_content : List Str := ["self", "text", "key"]
theorem sc_Store_put_content : FnScope N_Store_put_content ["self", "text"] (defScope s_Store_put_content) := ⟨rfl, rfl, rfl, by decide +kernel, rfl, by decide +kernel, by decide +kernel⟩
abbrev s_Store_content : Stmt := inClass (topS 80) 2
abbrev N_Store_content : List Str := ["self", "key"]
theorem sc_Store_content : FnScope N_Store_content ["self", "key"] (defScope s_Store_content) := ⟨rfl, rfl, rfl, by decide +kernel, rfl, by decide +kernel, by decide +kernel⟩
abbrev s_Store_has_content : Stmt := inClass (topS 80) 3
abbrev N_Store_has_content : List Str := ["self", "key"]
theorem sc_Store_has_content : FnScope N_Store_has_content ["self", "key"] (defScope s_Store_has_content) := ⟨rfl, rfl, rfl, by decide +kernel, rfl, by decide +kernel, by decide +kernel⟩
abbrev s_Store_add_record : Stmt := inClass (topS 80) 4
abbrev N_Store_add_record : List Str := ["self", "record", "line"]
theorem sc_Store_add_record : FnScope N_Store_add_record ["self", "record"] (defScope s_Store_add_record) := ⟨rfl, rfl, rfl, by decide +kernel, rfl, by decide +kernel, by decide +kernel⟩
abbrev s_Store_record : Stmt := inClass (topS 80) 5
abbrev N_Store_record : List Str := ["self", "index", "found"]
theorem sc_Store_record : FnScope N_Store_record ["self", "index"] (defScope s_Store_record) := ⟨rfl, rfl, rfl, by decide +kernel, rfl, by decide +kernel, by decide +kernel⟩
abbrev s_Store_find_records : Stmt := inClass (topS 80) 6
abbrev N_Store_find_records : List Str := ["self", "outputs", "rule_key"]
theorem sc_Store_find_records : FnScope N_Store_find_records ["self", "outputs", "rule_key"] (defScope s_Store_find_records) := ⟨rfl, rfl, rfl, by decide +kernel, rfl, by decide +kernel, by decide +kernel⟩
abbrev s_Store_lose_content : Stmt := inClass (topS 80) 7
abbrev N_Store_lose_content : List Str := ["self", "key"]
theorem sc_Store_lose_content : FnScope N_Store_lose_content ["self", "key"] (defScope s_Store_lose_content) := ⟨rfl, rfl, rfl, by decide +kernel, rfl, by decide +kernel, by decide +kernel⟩
abbrev s_Store_damage_content : Stmt := inClass (topS 80) 8
abbrev N_Store_damage_content : List Str := ["self", "key", "text"]
theorem sc_Store_damage_content : FnScope N_Store_damage_content ["self", "key", "text"] (defScope s_Store_damage_content) := ⟨rfl, rfl, rfl, by decide +kernel, rfl, by decide +kernel, by decide +kernel⟩
abbrev s_Store_lose_record : Stmt := inClass (topS 80) 9
abbrev N_Store_lose_record : List Str := ["self", "index"]
theorem sc_Store_lose_record : FnScope N_Store_lose_record ["self", "index"] (defScope s_Store_lose_record) := ⟨rfl, rfl, rfl, by decide +kernel, rfl, by decide +kernel, by decide +kernel⟩
abbrev s_Store_damage_record : Stmt := inClass (topS 80) 10
abbrev N_Store_damage_record : List Str := ["self", "index", "line"]
theorem sc_Store_damage_record : FnScope N_Store_damage_record ["self", "index", "line"] (defScope s_Store_damage_record) := ⟨rfl, rfl, rfl, by decide +kernel, rfl, by decide +kernel, by decide +kernel⟩
abbrev s_Store_content_keys : Stmt := inClass (topS 80) 11
abbrev N_Store_content_keys : List Str := ["self"]
theorem sc_Store_content_keys : FnScope N_Store_content_keys ["self"] (defScope s_Store_content_keys) := ⟨rfl, rfl, rfl, by decide +kernel, rfl, by decide +kernel, by decide +kernel⟩
abbrev s_Store_record_count : Stmt := inClass (topS 80) 12
abbrev N_Store_record_count : List Str := ["self"]
theorem sc_Store_record_count : FnScope N_Store_record_count ["self"] (defScope s_Store_record_count) := ⟨rfl, rfl, rfl, by decide +kernel, rfl, by decide +kernel, by decide +kernel⟩
abbrev s_Store_twin : Stmt := inClass (topS 80) 13
abbrev N_Store_twin : List Str := ["self"]
theorem sc_Store_twin : FnScope N_Store_twin ["self"] (defScope s_Store_twin) := ⟨rfl, rfl, rfl, by decide +kernel, rfl, by decide +kernel, by decide +kernel⟩
abbrev s_Store_kept_texts : Stmt := inClass (topS 80) 14
abbrev N_Store_kept_texts : List Str := ["self"]
theorem sc_Store_kept_texts : FnScope N_Store_kept_texts ["self"] (defScope s_Store_kept_texts) := ⟨rfl, rfl, rfl, by decide +kernel, rfl, by decide +kernel, by decide +kernel⟩
abbrev s_Store_kept_records : Stmt := inClass (topS 80) 15
abbrev N_Store_kept_records : List Str := ["self"]
theorem sc_Store_kept_records : FnScope N_Store_kept_records ["self"] (defScope s_Store_kept_records) := ⟨rfl, rfl, rfl, by decide +kernel, rfl, by decide +kernel, by decide +kernel⟩
abbrev s_Store_fill_from : Stmt := inClass (topS 80) 16
abbrev N_Store_fill_from : List Str := ["self", "texts", "rows"]
theorem sc_Store_fill_from : FnScope N_Store_fill_from ["self", "texts", "rows"] (defScope s_Store_fill_from) := ⟨rfl, rfl, rfl, by decide +kernel, rfl, by decide +kernel, by decide +kernel⟩
abbrev s_Store__check_content : Stmt := inClass (topS 80) 17
abbrev N_Store__check_content : List Str := ["self", "key"]
theorem sc_Store__check_content : FnScope N_Store__check_content ["self", "key"] (defScope s_Store__check_content) := ⟨rfl, rfl, rfl, by decide +kernel, rfl, by decide +kernel, by decide +kernel⟩
abbrev s_Store__check_kept : Stmt := inClass (topS 80) 18
abbrev N_Store__check_kept : List Str := ["self", "index"]
theorem sc_Store__check_kept : FnScope N_Store__check_kept ["self", "index"] (defScope s_Store__check_kept) := ⟨rfl, rfl, rfl, by decide +kernel, rfl, by decide +kernel, by decide +kernel⟩
abbrev s_InvalidSave___init__ : Stmt := inClass (topS 86) 0
abbrev N_InvalidSave___init__ : List Str := ["self", "line"]
theorem sc_InvalidSave___init__ : FnScope N_InvalidSave___init__ ["self", "line"] (defScope s_InvalidSave___init__) := ⟨rfl, rfl, rfl, by decide +kernel, rfl, by decide +kernel, by decide +kernel⟩
abbrev s_StoreReader___init__ : Stmt := inClass (topS 89) 0
abbrev N_StoreReader___init__ : List Str := ["self"]
theorem sc_StoreReader___init__ : FnScope N_StoreReader___init__ ["self"] (defScope s_StoreReader___init__) := ⟨rfl, rfl, rfl, by decide +kernel, rfl, by decide +kernel, by decide +kernel⟩
abbrev s_StoreReader_read : Stmt := inClass (topS 89) 1
abbrev N_StoreReader_read : List Str := ["self", "line", "parts", "number"]
theorem sc_StoreReader_read : FnScope N_StoreReader_read ["self", "line"] (defScope s_StoreReader_read) := ⟨rfl, rfl, rfl, by decide +kernel, rfl, by decide +kernel, by decide +kernel⟩
abbrev s_StoreReader__read_content : Stmt := inClass (topS 89) 2
abbrev N_StoreReader__read_content : List Str := ["self", "right", "kept", "key"]
theorem sc_StoreReader__read_content : FnScope N_StoreReader__read_content ["self", "right", "kept"] (defScope s_StoreReader__read_content) := ⟨rfl, rfl, rfl, by decide +kernel, rfl, by decide +kernel, by decide +kernel⟩
abbrev s_StoreReader__read_record : Stmt := inClass (topS 89) 3
abbrev N_StoreReader__read_record : List Str := ["self", "index", "right", "kept"]
theorem sc_StoreReader__read_record : FnScope N_StoreReader__read_record ["self", "index", "right", "kept"] (defScope s_StoreReader__read_record) := ⟨rfl, rfl, rfl, by decide +kernel, rfl, by decide +kernel, by decide +kernel⟩
abbrev s_StoreReader__read_count : Stmt := inClass (topS 89) 4
abbrev N_StoreReader__read_count : List Str := ["self", "count"]
theorem sc_StoreReader__read_count : FnScope N_StoreReader__read_count ["self", "count"] (defScope s_StoreReader__read_count) := ⟨rfl, rfl, rfl, by decide +kernel, rfl, by decide +kernel, by decide +kernel⟩
abbrev s_Rule___init__ : Stmt := inClass (topS 97) 0
abbrev N_Rule___init__ : List Str := ["self", "outputs", "inputs", "sealed", "body"]
theorem sc_Rule___init__ : FnScope N_Rule___init__ ["self", "outputs", "inputs", "sealed", "body"] (defScope s_Rule___init__) := ⟨rfl, rfl, rfl, by decide +kernel, rfl, by decide +kernel, by decide +kernel⟩
abbrev s_Rule___eq__ : Stmt := inClass (topS 97) 1
abbrev N_Rule___eq__ : List Str := ["self", "other"]
theorem sc_Rule___eq__ : FnScope N_Rule___eq__ ["self", "other"] (defScope s_Rule___eq__) := ⟨rfl, rfl, rfl, by decide +kernel, rfl, by decide +kernel, by decide +kernel⟩
abbrev s_Rule_is_pattern : Stmt := inClass (topS 97) 2
abbrev N_Rule_is_pattern : List Str := ["self"]
theorem sc_Rule_is_pattern : FnScope N_Rule_is_pattern ["self"] (defScope s_Rule_is_pattern) := ⟨rfl, rfl, rfl, by decide +kernel, rfl, by decide +kernel, by decide +kernel⟩
abbrev s_Book___init__ : Stmt := inClass (topS 98) 0
abbrev N_Book___init__ : List Str := ["self"]
theorem sc_Book___init__ : FnScope N_Book___init__ ["self"] (defScope s_Book___init__) := ⟨rfl, rfl, rfl, by decide +kernel, rfl, by decide +kernel, by decide +kernel⟩
abbrev s_Job___init__ : Stmt := inClass (topS 100) 0
abbrev N_Job___init__ : List Str := ["self", "rule", "stem", "outputs", "inputs"]
theorem sc_Job___init__ : FnScope N_Job___init__ ["self", "rule", "stem", "outputs", "inputs"] (defScope s_Job___init__) := ⟨rfl, rfl, rfl, by decide +kernel, rfl, by decide +kernel, by decide +kernel⟩
abbrev s_Job___eq__ : Stmt := inClass (topS 100) 1
abbrev N_Job___eq__ : List Str := ["self", "other"]
theorem sc_Job___eq__ : FnScope N_Job___eq__ ["self", "other"] (defScope s_Job___eq__) := ⟨rfl, rfl, rfl, by decide +kernel, rfl, by decide +kernel, by decide +kernel⟩
abbrev s_Job_name : Stmt := inClass (topS 100) 2
abbrev N_Job_name : List Str := ["self"]
theorem sc_Job_name : FnScope N_Job_name ["self"] (defScope s_Job_name) := ⟨rfl, rfl, rfl, by decide +kernel, rfl, by decide +kernel, by decide +kernel⟩
structure Tx (mg : Str → Option Value) : Prop where
  b_abs : mg "abs" = none
  b_all : mg "all" = none
  b_dict : mg "dict" = none
  b_enumerate : mg "enumerate" = none
  b_int : mg "int" = none
  b_isinstance : mg "isinstance" = none
  b_len : mg "len" = none
  b_list : mg "list" = none
  b_ord : mg "ord" = none
  b_range : mg "range" = none
  b_sorted : mg "sorted" = none
  b_str : mg "str" = none
  b_tuple : mg "tuple" = none
  c_NEWLINE : ∃ u, mg "NEWLINE" = some u ∧ RelV (.int 10) u
  c_SPACE : ∃ u, mg "SPACE" = some u ∧ RelV (.int 32) u
  c_PERCENT : ∃ u, mg "PERCENT" = some u ∧ RelV (.int 37) u
  c_TILDE : ∃ u, mg "TILDE" = some u ∧ RelV (.int 126) u
  c_SIGNS_BEFORE : ∃ u, mg "SIGNS_BEFORE" = some u ∧ RelV (.str (Str.ofString " !\"#$")) u
  c_SIGNS_BEHIND : ∃ u, mg "SIGNS_BEHIND" = some u ∧ RelV (.str (Str.ofString "&'()*+,-./0123456789:;<=>?@ABCDEFGHIJKLMNOPQRSTUVWXYZ[\\]^_`abcdefghijklmnopqrstuvwxyz{|}~")) u
  c_DIGIT_BITS : ∃ u, mg "DIGIT_BITS" = some u ∧ RelV (.int 7) u
  c_INDENT : ∃ u, mg "INDENT" = some u ∧ RelV (.str (Str.ofString "  ")) u
  c_SIGNS : ∃ u, mg "SIGNS" = some u ∧ RelV (.str (Str.ofString "(),+")) u
  c_QUOTE : ∃ u, mg "QUOTE" = some u ∧ RelV (.str (Str.ofString "\"")) u
  c_BACKSLASH : ∃ u, mg "BACKSLASH" = some u ∧ RelV (.str (Str.ofString "\\")) u
  c_WORD_ENDS : ∃ u, mg "WORD_ENDS" = some u ∧ RelV (.str (Str.ofString " \"(),+")) u
  c_MOST_NAMES : ∃ u, mg "MOST_NAMES" = some u ∧ RelV (.int 4) u
  c_NAME_LENGTH : ∃ u, mg "NAME_LENGTH" = some u ∧ RelV (.int 12) u
  c_NAME_SIGNS : ∃ u, mg "NAME_SIGNS" = some u ∧ RelV (.str (Str.ofString "abcdefghijklmnopqrstuvwxyz0123456789_.")) u
  c_NOTHING : ∃ u, mg "NOTHING" = some u ∧ RelV (.str (Str.ofString "-")) u
  c_YES : ∃ u, mg "YES" = some u ∧ RelV (.str (Str.ofString "yes")) u
  c_NO : ∃ u, mg "NO" = some u ∧ RelV (.str (Str.ofString "no")) u
  c_MOST_DIGITS_saving : ∃ u, mg "MOST_DIGITS_saving" = some u ∧ RelV (.int 4) u
structure Tc_Store (K : PySem.W.Frag) (C : Addr) : Prop where
  cl : Cls K C
  na_journal : NoAttr K C "journal"
  na__texts : NoAttr K C "_texts"
  na__rows : NoAttr K C "_rows"
structure Tc_Record (K : PySem.W.Frag) (C : Addr) : Prop where
  cl : Cls K C
  na_outputs : NoAttr K C "outputs"
  na_rule_key : NoAttr K C "rule_key"
  na_needs : NoAttr K C "needs"
  na_results : NoAttr K C "results"
structure Tc_Rule (K : PySem.W.Frag) (C : Addr) : Prop where
  cl : Cls K C
  na_outputs : NoAttr K C "outputs"
  na_inputs : NoAttr K C "inputs"
  na_sealed : NoAttr K C "sealed"
  na_body : NoAttr K C "body"
structure Tc_Book (K : PySem.W.Frag) (C : Addr) : Prop where
  cl : Cls K C
  na_settings : NoAttr K C "settings"
  na_rules : NoAttr K C "rules"
  na_files : NoAttr K C "files"
structure Tc_Job (K : PySem.W.Frag) (C : Addr) : Prop where
  cl : Cls K C
  na_rule : NoAttr K C "rule"
  na_stem : NoAttr K C "stem"
  na_outputs : NoAttr K C "outputs"
  na_inputs : NoAttr K C "inputs"
structure Tc_StoreReader (K : PySem.W.Frag) (C : Addr) : Prop where
  cl : Cls K C
  na_texts : NoAttr K C "texts"
  na_rows : NoAttr K C "rows"
  na_last_key : NoAttr K C "last_key"
  na_last_index : NoAttr K C "last_index"
  na_count : NoAttr K C "count"
structure Gx (K : PySem.W.Frag) (mg : Str → Option Value) where
  c_BuildError : Addr
  g_BuildError : mg "BuildError" = some (.ref c_BuildError)
  b_BuildError : Kn.BaseC K c_BuildError
  c_MissingContent : Addr
  g_MissingContent : mg "MissingContent" = some (.ref c_MissingContent)
  x_MissingContent : Kn.Xc K c_MissingContent c_BuildError
  n_MissingContent_key : PySem.W.findIn K (.ref c_MissingContent) "key" = some none
  c_NoSuchRecord : Addr
  g_NoSuchRecord : mg "NoSuchRecord" = some (.ref c_NoSuchRecord)
  x_NoSuchRecord : Kn.Xc K c_NoSuchRecord c_BuildError
  n_NoSuchRecord_index : PySem.W.findIn K (.ref c_NoSuchRecord) "index" = some none
  c_InvalidRecipe : Addr
  g_InvalidRecipe : mg "InvalidRecipe" = some (.ref c_InvalidRecipe)
  x_InvalidRecipe : Kn.Xc K c_InvalidRecipe c_BuildError
  n_InvalidRecipe_path : PySem.W.findIn K (.ref c_InvalidRecipe) "path" = some none
  n_InvalidRecipe_line : PySem.W.findIn K (.ref c_InvalidRecipe) "line" = some none
  n_InvalidRecipe_column : PySem.W.findIn K (.ref c_InvalidRecipe) "column" = some none
  n_InvalidRecipe_reason : PySem.W.findIn K (.ref c_InvalidRecipe) "reason" = some none
local macro_rules | `(tactic| walk_at "ev") => `(tactic| first
  | exact ev_c
  | exact ev_var rfl
  | exact ea_nil
  | exact eo_none
  | (apply eo_some; walk_at "ev")
  | (apply ea_cons <;> walk_at "ev")
  | (apply ev_op <;> first | walk_at "rv" | walk_at "ev")
  | (apply ev_un <;> first | exact ru_neg | walk_at "ev")
  | (apply ev_chain <;> first | walk_at "rv" | walk_at "ev")
  | (apply et_test; walk_at "ev")
  | (apply et_B; walk_at "ev")
  | (apply et_not; walk_at "ev")
  | (apply et_and; walk_at "ev"; intro _; walk_at "ev")
  | (apply et_or; walk_at "ev"; intro _; walk_at "ev")
  | (apply ev_andV; walk_at "ev"; intro _; walk_at "ev")
  | (apply ev_orV; walk_at "ev"; intro _; walk_at "ev")
  | (apply ev_notV; walk_at "ev")
  | (apply ev_cb <;> first | walk_at "rc" | walk_at "ev"))
local macro_rules | `(tactic| walk_at "rv") => `(tactic| first
  | exact rv_eqI | exact rv_neI | exact rv_eqS | exact rv_neS | exact rv_le | exact rv_lt | exact rv_ge | exact rv_gt | exact rv_inS | exact rv_ninS
  | exact rv_I0
  | exact rv_pow ⟨by decide, by decide, by decide⟩
  | exact rv_mod (by first | decide | omega)
  | exact rv_fdiv ⟨by decide, by decide⟩
  | exact rv_fdiv ⟨by omega, by omega⟩
  | exact rv_addS (by first | assumption | omega)
  | exact rv_mul (.inr ⟨by decide, by decide⟩) | exact rv_mul (.inl ⟨by decide, by decide⟩)
  | exact rv_mul (by first | exact .inl ⟨by omega, by omega⟩ | exact .inr ⟨by omega, by omega⟩)
  | exact rv_eq rfl | exact rv_ne rfl)
local macro_rules | `(tactic| walk_at "rc") => `(tactic| first
  | exact rc_abs | exact rc_int | exact rc_intB | exact rc_ord
  | exact rc_lenS (by first | assumption | omega))

section
variable {P : Program} {w : World} {K : PySem.W.Frag} {mg : Str → Option Value} {base : Heap}
theorem ok_MissingContent___init__ {f : Addr} {C_Store C_Record C_Rule C_Book C_Job C_StoreReader : Addr} {fd : FuncData} (F : Fun K "__init__" "MissingContent.__init__" s_MissingContent___init__ f fd) (T : Tx mg) (G : Gx K mg) (TC_Store : Tc_Store K C_Store) (TC_Record : Tc_Record K C_Record) (TC_Rule : Tc_Rule K C_Rule) (TC_Book : Tc_Book K C_Book) (TC_Job : Tc_Job K C_Job) (TC_StoreReader : Tc_StoreReader K C_StoreReader)  : FnOk P w K mg base CX0 1 f fd ["self", "key"] (sp_I1v "key" K) := by
  refine F.ok sc_MissingContent___init__ (fun vs H Q E h => ?_) (fun cdv A outer s H vs Q E hr h => ?_)
  · obtain ⟨a, C, v, rfl, _⟩ := h
    rfl
  · obtain ⟨a, C, v, rfl, ha, oe, nf, q⟩ := h
    refine ⟨_, (pss_cons (ps_expr (Kn.pe_beinit G.b_BuildError (by rfl) G.g_BuildError (pa_cons (pv 0) (pa_cons pe_str pa_nil))))
      (pss_one (ps_ost (pv 0) (pv 1)))), ?_⟩
    exact init1v_body (ev_cS (l := (Str.ofString "no whole content is kept under this key").cps.toList) rfl) ha oe nf fun dx H' h1 h2 m => q dx H' h1 h2 m

theorem ok_InvalidRecipe___init__ {f : Addr} {C_Store C_Record C_Rule C_Book C_Job C_StoreReader : Addr} {fd : FuncData} (F : Fun K "__init__" "InvalidRecipe.__init__" s_InvalidRecipe___init__ f fd) (T : Tx mg) (G : Gx K mg) (TC_Store : Tc_Store K C_Store) (TC_Record : Tc_Record K C_Record) (TC_Rule : Tc_Rule K C_Rule) (TC_Book : Tc_Book K C_Book) (TC_Job : Tc_Job K C_Job) (TC_StoreReader : Tc_StoreReader K C_StoreReader)  : FnOk P w K mg base CX0 1 f fd ["self", "path", "line", "column", "reason"] (sp_I4 K) := by
  refine F.ok sc_InvalidRecipe___init__ (fun vs H Q E h => ?_) (fun cdv A outer s H vs Q E hr h => ?_)
  · obtain ⟨a, C, p, n, c, r, rfl, _⟩ := h
    rfl
  · obtain ⟨a, C, p, n, c, r, rfl, ⟨hp, hr1, hn, hc⟩, ha, oe, nf, q⟩ := h
    refine ⟨_, (pss_cons (ps_expr (Kn.pe_beinit G.b_BuildError (by rfl) G.g_BuildError (pa_cons (pv 0) (pa_cons (pe_joined (.cons (pe_fmt (pv 1)) (.cons pe_str (.cons (pe_fmt (pv 2)) (.cons pe_str (.cons (pe_fmt (pv 3)) (.cons pe_str (.cons (pe_fmt (pv 4)) .nil)))))))) pa_nil))))
      (pss_cons (ps_ost (pv 0) (pv 1))
      (pss_cons (ps_ost (pv 0) (pv 2))
      (pss_cons (ps_ost (pv 0) (pv 3))
      (pss_one (ps_ost (pv 0) (pv 4))))))), ?_⟩
    have l1 := num_len hn
    have l2 := num_len hc
    exact init4_body (p := p) (n := n) (c := c) (r := r) rfl (ev_js (.cons (ev_fmtS (ev_var rfl) (by omega)) (.cons (ev_cS (l := (Str.ofString ", line ").cps.toList) rfl) (.cons (ev_fmtI (ev_var rfl) hn) (.cons (ev_cS (l := (Str.ofString ", column ").cps.toList) rfl) (.cons (ev_fmtI (ev_var rfl) hc) (.cons (ev_cS (l := (Str.ofString ": ").cps.toList) rfl) (.cons (ev_fmtS (ev_var rfl) (by omega)) .nil))))))) (by show p.length + (7 + ((TL.numL n).length + (9 + ((TL.numL c).length + (2 + (r.length + 0)))))) ≤ 100000; omega)) ha oe nf fun dx H' h1 h2 m => q dx H' h1 h2 m

theorem ok_NoSuchRecord___init__ {f : Addr} {C_Store C_Record C_Rule C_Book C_Job C_StoreReader : Addr} {fd : FuncData} (F : Fun K "__init__" "NoSuchRecord.__init__" s_NoSuchRecord___init__ f fd) (T : Tx mg) (G : Gx K mg) (TC_Store : Tc_Store K C_Store) (TC_Record : Tc_Record K C_Record) (TC_Rule : Tc_Rule K C_Rule) (TC_Book : Tc_Book K C_Book) (TC_Job : Tc_Job K C_Job) (TC_StoreReader : Tc_StoreReader K C_StoreReader)  : FnOk P w K mg base CX0 1 f fd ["self", "index"] (sp_I1z "index" K) := by
  refine F.ok sc_NoSuchRecord___init__ (fun vs H Q E h => ?_) (fun cdv A outer s H vs Q E hr h => ?_)
  · obtain ⟨a, C, i, rfl, _⟩ := h
    rfl
  · obtain ⟨a, C, i, rfl, ⟨hi, hz⟩, ha, oe, nf, q⟩ := h
    refine ⟨_, (pss_cons (ps_expr (Kn.pe_beinit G.b_BuildError (by rfl) G.g_BuildError (pa_cons (pv 0) (pa_cons (pe_joined (.cons pe_str (.cons (pe_fmt (pv 1)) .nil))) pa_nil))))
      (pss_one (ps_ost (pv 0) (pv 1)))), ?_⟩
    exact init1v_body (v := .int i) (ev_js (.cons (ev_cS (l := (Str.ofString "no record ").cps.toList) rfl) (.cons (ev_fmtZ (ev_var rfl) hi) .nil)) (by show (10 + ((toString i : Str).cps.toList.length + 0)) ≤ 100000; omega)) ha oe nf fun dx H' h1 h2 m => q dx H' h1 h2 m

end
/-! ### texts -/
def isCode (n : Int) : Bool := decide (n = 10) || ((decide (32 ≤ n) && decide (n ≤ 126)) && !decide (n = 37))
def okText (l : List Nat) : Bool := l.all fun c => isCode (c : Int)
section
variable {P : Program} {w : World} {K : PySem.W.Frag} {mg : Str → Option Value} {base : Heap}
def sp__is_code (_ : PySem.W.Frag) : Sp := sp1 (fun n : Int => [.int n]) (fun _ _ => True) (fun n => .bl (isCode n))
theorem ok__is_code {f : Addr} {C_Store C_Record C_Rule C_Book C_Job C_StoreReader : Addr} {fd : FuncData} (F : Fun K "_is_code" "_is_code" s__is_code f fd) (T : Tx mg) (G : Gx K mg) (TC_Store : Tc_Store K C_Store) (TC_Record : Tc_Record K C_Record) (TC_Rule : Tc_Rule K C_Rule) (TC_Book : Tc_Book K C_Book) (TC_Job : Tc_Job K C_Job) (TC_StoreReader : Tc_StoreReader K C_StoreReader)  : FnOk P w K mg base CX0 1 f fd ["code"] (sp__is_code K) := by
  refine F.ok sc__is_code (fun vs H Q E h => ?_) (fun cdv A outer s H vs Q E hr h => ?_)
  · obtain ⟨n, rfl, _⟩ := h
    rfl
  · obtain ⟨n, rfl, -, q⟩ := h
    refine ⟨_, (pss_one (ps_ret (pe_or (pe_cmpR op_eq (pv 0) (C8.pe_gc (by rfl) T.c_NEWLINE) (nomark _)) (pe_one (pe_and (pe_chain op_le op_le (C8.pe_gc (by rfl) T.c_SPACE) (pv 0) (C8.pe_gc (by rfl) T.c_TILDE)) (pe_one (pe_cmpR op_ne (pv 0) (C8.pe_gc (by rfl) T.c_PERCENT) (nomark _)))))))), ?_⟩
    apply s_ret
    · walk_at "ev"
    · exact q
def sp_is_text (_ : PySem.W.Frag) : Sp := sp1 (fun l : List Nat => [.str (S l)]) (fun l _ => l.length ≤ 40000) (fun l => .bl (okText l))
theorem ok_is_text {f : Addr} {C_Store C_Record C_Rule C_Book C_Job C_StoreReader : Addr} {fd : FuncData} (F : Fun K "is_text" "is_text" s_is_text f fd) (T : Tx mg) (G : Gx K mg) (TC_Store : Tc_Store K C_Store) (TC_Record : Tc_Record K C_Record) (TC_Rule : Tc_Rule K C_Rule) (TC_Book : Tc_Book K C_Book) (TC_Job : Tc_Job K C_Job) (TC_StoreReader : Tc_StoreReader K C_StoreReader) (C__is_code : Kn.Cl P w K mg base 1 "_is_code" (sp__is_code K)) : FnOk P w K mg base CX0 2 f fd ["value"] (sp_is_text K) := by
  refine F.ok sc_is_text (fun vs H Q E h => ?_) (fun cdv A outer s H vs Q E hr h => ?_)
  · obtain ⟨l, rfl, _⟩ := h
    rfl
  · obtain ⟨l, rfl, hl, q⟩ := h
    refine ⟨_, (pss_one (ps_ret (pe_callB (cr_all rfl) (by rfl) T.b_all (by decide +kernel) (pa_cons (pe_lc (own := [("sign", 1)]) rfl sc_is_text.nd (pi_str (pv 0)) (blkOk_by (own := [("sign", 1)]) (N := N_is_text) (sc := defScope s_is_text) (by decide +kernel)) (fun _ _ _ _ _ => pg_name (i := 1) sc_is_text.nd rfl (Or.inl rfl)) (fun _ _ _ _ _ => pts_nil) (fun _ _ _ _ _ => (Kn.pe_cl C__is_code hr (by decide) (by rfl) (pa_cons (pe_callB Kn.cr_ord (by rfl) T.b_ord (by decide +kernel) (pa_cons (pv 1) pa_nil)) pa_nil)))) pa_nil)))), ?_⟩
    refine s_ret (v := .bl (okText l)) (ev_all (p := fun c : Nat => isCode (c : Int)) (el_lcS (ev_var rfl) hl (fun _ => rfl) fun c hc H1 e1 => ?_)) q
    exact ev_c1 (a := (c : Int)) (by walk_at "ev") (fun _ _ => trivial)
end

/-! ### keys, names, paths -/
open Kn.Rp
section
variable {P : Program} {w : World} {K : PySem.W.Frag} {mg : Str → Option Value} {base : Heap}
def Txl (l : List Nat) : Prop := l.length ≤ 2000 ∧ ∀ c ∈ l, c < 128
def sp_content_key (_ : PySem.W.Frag) : Sp := sp1 (fun l : List Nat => [.str (S l)]) (fun l _ => Txl l) (fun l => .int ((key l : Nat) : Int))
theorem ok_content_key {f : Addr} {C_Store C_Record C_Rule C_Book C_Job C_StoreReader : Addr} {fd : FuncData} (F : Fun K "content_key" "content_key" s_content_key f fd) (T : Tx mg) (G : Gx K mg) (TC_Store : Tc_Store K C_Store) (TC_Record : Tc_Record K C_Record) (TC_Rule : Tc_Rule K C_Rule) (TC_Book : Tc_Book K C_Book) (TC_Job : Tc_Job K C_Job) (TC_StoreReader : Tc_StoreReader K C_StoreReader)  (hdig : PySem.W.nsIn K cStatics "sys.int_max_str_digits" = some none) : FnOk P w K mg base CX0 1 f fd ["text"] (sp_content_key K) := by
  refine F.ok sc_content_key (fun vs H Q E h => ?_) (fun cdv A outer s H vs Q E hr h => ?_)
  · obtain ⟨n, rfl, _⟩ := h
    rfl
  · obtain ⟨l, rfl, ⟨hl, hlt⟩, q⟩ := h
    refine ⟨_, (pss_one (ps_ret (pe_callTy (Kn.Bi.cr_intBinL hdig) (by rfl) T.b_int (by decide +kernel) (pa_cons (pe_op Kn.op_addS pe_str (Kn.pe_joinN (pe_join pe_str (pe_lc (own := [("sign", 1)]) rfl sc_content_key.nd (pi_str (pv 0)) (blkOk_by (own := [("sign", 1)]) (N := N_content_key) (sc := defScope s_content_key) (by decide +kernel)) (fun _ _ _ _ _ => pg_name (i := 1) sc_content_key.nd rfl (Or.inl rfl)) (fun _ _ _ _ _ => pts_nil) (fun _ _ _ _ _ => (pe_joined1 (Kn.Bi.pe_fmt7 (pe_callB Kn.cr_ord (by rfl) T.b_ord (by decide +kernel) (pa_cons (pv 1) pa_nil)) (pe_joined1 pe_str)))))))) (pa_cons pe_int pa_nil))))), ?_⟩
    have hfl := flat_len l
    refine s_ret (ev_is (ev_intBinL (l := [49] ++ (l.map Bi.pad7).flatten) (ea_cons (ev_op (ev_cS (l := [49]) rfl) (ev_is (ev_join (s := []) (ys := l.map Bi.pad7) (ev_cS (l := []) rfl) ?_ ?_) (by rw [Kn.join_nil])) (rv_addS (by rw [hfl]; show 1 + _ ≤ 100000; omega))) (ea_cons ev_c ea_nil)) (by simp) (bin_all l)) (by rw [bin_key hlt])) q
    · rw [List.map_map]
      exact el_lcS (ev_var rfl) (by omega) (fun _ => rfl) fun c hc H2 e2 => ev_fmt7 (ev_cb (ea_cons (ev_var rfl) ea_nil) rc_ord) (hlt c hc)
    · rw [← List.length_flatten, hfl, List.length_nil, Nat.mul_zero]
      omega
def sp__is_name (_ : PySem.W.Frag) : Sp := sp1 (fun l : List Nat => [.str (S l)]) (fun l _ => l.length ≤ 40000) (fun l => .bl (nameOk NS l))
theorem ok__is_name {f : Addr} {C_Store C_Record C_Rule C_Book C_Job C_StoreReader : Addr} {fd : FuncData} (F : Fun K "_is_name" "_is_name" s__is_name f fd) (T : Tx mg) (G : Gx K mg) (TC_Store : Tc_Store K C_Store) (TC_Record : Tc_Record K C_Record) (TC_Rule : Tc_Rule K C_Rule) (TC_Book : Tc_Book K C_Book) (TC_Job : Tc_Job K C_Job) (TC_StoreReader : Tc_StoreReader K C_StoreReader)  : FnOk P w K mg base CX0 1 f fd ["name"] (sp__is_name K) := by
  refine F.ok sc__is_name (fun vs H Q E h => ?_) (fun cdv A outer s H vs Q E hr h => ?_)
  · obtain ⟨l, rfl, _⟩ := h
    rfl
  · obtain ⟨l, rfl, hl, q⟩ := h
    refine ⟨_, (pss_cons (ps_if (PW.pt (pw_or (pt_not (pt_chain op_le op_le pe_int (pe_callB Kn.cr_lenStr (by rfl) T.b_len PySem.boot_len (pa_cons (pv 0) pa_nil)) (C8.pe_gc (by rfl) T.c_NAME_LENGTH))) (pw_or1 (pt_val (pe_m1 PySem.F.slot_str_startswith PySem.F.type_str_startswith Kn.mt_startswith (pv 0) pe_str))))) (pss_one (ps_ret pe_bl)) pss_nil)
      (pss_one (ps_ret (pe_callB (cr_all rfl) (by rfl) T.b_all (by decide +kernel) (pa_cons (pe_lc (own := [("sign", 1)]) rfl sc__is_name.nd (pi_str (pv 0)) (blkOk_by (own := [("sign", 1)]) (N := N__is_name) (sc := defScope s__is_name) (by decide +kernel)) (fun _ _ _ _ _ => pg_name (i := 1) sc__is_name.nd rfl (Or.inl rfl)) (fun _ _ _ _ _ => pts_nil) (fun _ _ _ _ _ => (pe_cmpR op_inS (pv 1) (C8.pe_gc (by rfl) T.c_NAME_SIGNS) rfl))) pa_nil))))), ?_⟩
    refine q_when (b := !(decide (1 ≤ (l.length : Int)) && decide ((l.length : Int) ≤ 12)) || decide (l[0]? = some 46)) (et_or (et_not (et_test (ev_chain ev_c (ev_cb (ea_cons (ev_var rfl) ea_nil) (rc_lenS (by omega))) rv_le ev_c rv_le))) fun _ => et_B (ev_starts (c := 46) (ev_var rfl) (ev_cS rfl))) (fun hb H1 e1 => ?_) (fun hb H1 e1 => ?_)
    · refine s_ret ev_c fun H2 e2 => ?_
      have z : Q (.bl (nameOk NS l)) H2 := q H2 (e1.trans e2)
      unfold nameOk at z
      rw [hb] at z
      exact z
    · refine s_ret (v := .bl (l.all fun c => decide (c ∈ NS))) (ev_all (p := fun c : Nat => decide (c ∈ NS)) (el_lcS (ev_var rfl) hl (fun _ => rfl) fun c hc H2 e2 => ?_)) fun H2 e2 => ?_
      · exact ev_op (ev_var rfl) (ev_cS (l := NS) rfl) rv_inS
      · have z : Q (.bl (nameOk NS l)) H2 := q H2 (e1.trans e2)
        unfold nameOk at z
        rw [hb] at z
        exact z
def sp_is_path (_ : PySem.W.Frag) : Sp := sp1 (fun l : List Nat => [.str (S l)]) (fun l _ => l.length ≤ 30000) (fun l => .bl (pathOk l))
theorem ok_is_path {f : Addr} {C_Store C_Record C_Rule C_Book C_Job C_StoreReader : Addr} {fd : FuncData} (F : Fun K "is_path" "is_path" s_is_path f fd) (T : Tx mg) (G : Gx K mg) (TC_Store : Tc_Store K C_Store) (TC_Record : Tc_Record K C_Record) (TC_Rule : Tc_Rule K C_Rule) (TC_Book : Tc_Book K C_Book) (TC_Job : Tc_Job K C_Job) (TC_StoreReader : Tc_StoreReader K C_StoreReader) (C__is_name : Kn.Cl P w K mg base 1 "_is_name" (sp__is_name K)) : FnOk P w K mg base CX0 2 f fd ["value"] (sp_is_path K) := by
  refine F.ok sc_is_path (fun vs H Q E h => ?_) (fun cdv A outer s H vs Q E hr h => ?_)
  · obtain ⟨l, rfl, _⟩ := h
    rfl
  · obtain ⟨l, rfl, hl, q⟩ := h
    refine ⟨_, (pss_cons (ps_set (i := 1) sc_is_path.nd rfl (Or.inl rfl) (pe_m1 PySem.F.slot_str_split PySem.F.type_str_split Kn.mt_split (pv 0) pe_str))
      (pss_one (ps_ret (pe_and (pe_cmpR op_le (pe_callB Kn.cr_lenSeq (by rfl) T.b_len PySem.boot_len (pa_cons (pv 1) pa_nil)) (C8.pe_gc (by rfl) T.c_MOST_NAMES) (nomark _)) (pe_one (pe_callB (cr_all rfl) (by rfl) T.b_all (by decide +kernel) (pa_cons (pe_lc (own := [("name", 2)]) rfl sc_is_path.nd (pi_list (pv 1)) (blkOk_by (own := [("name", 2)]) (N := N_is_path) (sc := defScope s_is_path) (by decide +kernel)) (fun _ _ _ _ _ => pg_name (i := 2) sc_is_path.nd rfl (Or.inl rfl)) (fun _ _ _ _ _ => pts_nil) (fun _ _ _ _ _ => (Kn.pe_cl C__is_name hr (by decide) (by rfl) (pa_cons (pv 2) pa_nil)))) pa_nil))))))), ?_⟩
    have hc := cut1_len 47 l
    refine q_asgL (el_split (c := 47) (ev_var rfl) (ev_cS rfl) (by decide) (by omega)) fun p H1 np e1 hp => ?_
    refine s_ret (v := .bl (pathOk l)) (ev_andV (a := decide (((cut1 47 l).length : Int) ≤ 4)) (ev_is (ev_op (ev_len (ev_var rfl) (sq_of hp)) ev_c rv_le) (by rw [List.length_map])) fun _ => ev_all (p := nameOk NS) (el_lcM (g := fun p => V.str (S p)) (ev_var rfl) (sq_of hp) (by omega) (fun _ => rfl) fun n hn H2 e2 => ?_)) fun H2 e2 => q H2 (e1.trans e2)
    have := cut1_part hn
    exact ev_c1 (a := n) (by walk_at "ev") fun _ _ => (by omega)
end
section
variable {P : Program} {w : World} {K : PySem.W.Frag} {mg : Str → Option Value} {base : Heap}
/-! ### words of a line -/
theorem cut_ne (c : Nat) : ∀ (l acc : List Nat), TL.spl [c] 0 acc l ≠ []
  | [], acc => by rw [TL.spl_nil]; simp
  | d :: r, acc => by
    by_cases h : TL.pre [c] (d :: r) = true
    · rw [TL.spl_hit h]
      simp
    · rw [TL.spl_miss (by simpa using h)]
      exact cut_ne c r _
theorem cut1_pos (c : Nat) (l : List Nat) : 0 < (cut1 c l).length := List.length_pos_iff.mpr (cut_ne c l [])
theorem at_getD {it : List (List Nat)} {i : Nat} {j : Int} (hj : j = (i : Int)) (h : i < it.length) : atI (it.map fun p => V.str (S p)) j = some (.str (S (it.getD i []))) := by
  refine atI_nat' hj ?_
  rw [List.getElem?_map, List.getElem?_eq_getElem h, List.getD_eq_getElem?_getD, List.getElem?_eq_getElem h]
  rfl
theorem at_last {α : Type} {xs : List α} {v : α} (h : xs[xs.length - 1]? = some v) : atI xs (-1) = some v := by
  have hl := (List.getElem?_eq_some_iff.mp h).1
  have e : ixN xs.length (-1) = some (xs.length - 1) := by
    unfold ixN
    rw [if_neg (by decide), if_pos (by omega)]
    congr 1
    omega
  unfold atI
  rw [e]
  exact h
theorem last_getD {it : List (List Nat)} (h : 0 < it.length) : atI (it.map fun p => V.str (S p)) (-1) = some (.str (S (it.getD (it.length - 1) []))) := by
  refine at_last ?_
  rw [List.length_map, List.getElem?_map, List.getElem?_eq_getElem (by omega), List.getD_eq_getElem?_getD, List.getElem?_eq_getElem (by omega)]
  rfl
theorem in_two (a b c : List Nat) : inV (.str (S a)) [.str (S b), .str (S c)] = (decide (a = b) || decide (a = c)) := by
  have h : ∀ x y : List Nat, eqV (.str (S x)) (.str (S y)) = decide (x = y) := fun x y => by
    show (S x == S y) = _
    rw [Bool.eq_iff_iff, beq_iff_eq, decide_eq_true_eq]
    exact ⟨fun h => S_inj h, fun h => by rw [h]⟩
  show (eqV (.str (S b)) (.str (S a)) || (eqV (.str (S c)) (.str (S a)) || false)) = _
  rw [h, h, Bool.or_false]
  congr 1 <;> (rw [decide_eq_decide]; exact ⟨Eq.symm, Eq.symm⟩)
end

/-! ### lists of words -/
section
variable {P : Program} {w : World} {K : PySem.W.Frag} {mg : Str → Option Value} {base : Heap}
theorem strsV_len (ws : List (List Nat)) : (strsV ws).length = ws.length := List.length_map _
theorem ev_lenW {σ : L2.St} {H : Hp} {te : TE} {p : Addr} {ws : List (List Nat)} (h : Ev te σ H (.ref p)) (hp : SqL K H p (strsV ws)) : Ev (tCB (rLenS K) (tCons te tNil)) σ H (.int (ws.length : Int)) := ev_is (ev_len h hp) (by rw [strsV_len])
def Wds (K : PySem.W.Frag) (H : Hp) (p : Addr) (ws : List (List Nat)) : Prop := SqL K H p (strsV ws) ∧ ws.length ≤ 30000 ∧ ∀ x ∈ ws, x.length ≤ 20000
theorem Wds.mono {H H1 : Hp} {p : Addr} {ws : List (List Nat)} (h : Wds K H p ws) (e : Ex H H1) : Wds K H1 p ws := ⟨ex_l e h.1, h.2⟩
theorem ev_rpartV {σ : L2.St} {H : Hp} {ta tb : TE} {l : List Nat} (ha : Ev ta σ H (.str (S l))) (hb : Ev tb σ H (.str (S [58]))) (hl : l.length ≤ 100000) : Ev (tOp (rIxT K) (tM1 rRpart ta tb) (tC (.int 0))) σ H (.str (S (questL l))) := by
  rw [← questS]
  exact ev_rpart0 ha hb (List.cons_ne_nil _ _) hl
/-! ### what was seen -/
def sp__format_seen (_ : PySem.W.Frag) : Sp := sp1 (fun s : Sn => [snD s]) (fun s _ => GSn s) (fun s => .str (S (fmtSn s)))
theorem ok__format_seen {f : Addr} {C_Store C_Record C_Rule C_Book C_Job C_StoreReader : Addr} {fd : FuncData} (F : Fun K "_format_seen" "_format_seen" s__format_seen f fd) (T : Tx mg) (G : Gx K mg) (TC_Store : Tc_Store K C_Store) (TC_Record : Tc_Record K C_Record) (TC_Rule : Tc_Rule K C_Rule) (TC_Book : Tc_Book K C_Book) (TC_Job : Tc_Job K C_Job) (TC_StoreReader : Tc_StoreReader K C_StoreReader)  : FnOk P w K mg base CX0 1 f fd ["seen"] (sp__format_seen K) := by
  refine F.ok sc__format_seen (fun vs H Q E h => ?_) (fun cdv A outer s H vs Q E hr h => ?_)
  · obtain ⟨n, rfl, _⟩ := h
    rfl
  · obtain ⟨n, rfl, g, q⟩ := h
    refine ⟨_, (pss_cons (ps_if (pt_cmpR op_isN1 (pv 0) pe_non (nomark _)) (pss_one (ps_ret (C8.pe_gc (by rfl) T.c_NOTHING))) pss_nil)
      (pss_cons (ps_if (pt_cmpR Kn.op_isB (pv 0) pe_bl (nomark _)) (pss_one (ps_ret (C8.pe_gc (by rfl) T.c_YES))) pss_nil)
      (pss_one (ps_ret (pe_ifExp (pt_cmpR Kn.op_isB (pv 0) pe_bl (nomark _)) (C8.pe_gc (by rfl) T.c_NO) (pe_joined1 (pe_fmt (pv 0)))))))), ?_⟩
    have hsn : snV (snD n) = true := by cases n <;> rfl
    refine q_when (b := decide (snD n = .non)) (et_isN (ev_var rfl)) (fun hb H1 e1 => ?_) fun hb H1 e1 => ?_
    · have e : n = .no := by
        cases n with
        | no => rfl
        | b x => exact absurd (of_decide_eq_true hb) (by intro z; cases z)
        | k x => exact absurd (of_decide_eq_true hb) (by intro z; cases z)
      subst e
      exact s_ret (ev_cS (l := [45]) rfl) fun H2 e2 => q H2 (e1.trans e2)
    · refine q_when (b := decide (snD n = .bl true)) (et_test (ev_op (ev_var rfl) ev_c (rv_isB hsn))) (fun hb H2 e2 => ?_) fun hb2 H2 e2 => ?_
      · have e : n = .b true := by
          cases n with
          | no => exact absurd (of_decide_eq_true hb) (by intro z; cases z)
          | b x => have := of_decide_eq_true hb; cases this; rfl
          | k x => exact absurd (of_decide_eq_true hb) (by intro z; cases z)
        subst e
        exact s_ret (ev_cS (l := yesL) rfl) fun H3 e3 => q H3 ((e1.trans e2).trans e3)
      · refine s_ret (ev_if (b := decide (snD n = .bl false)) (et_test (ev_op (ev_var rfl) ev_c (rv_isB hsn))) (fun hb => ?_) fun hb3 => ?_) fun H3 e3 => q H3 ((e1.trans e2).trans e3)
        · have e : n = .b false := by
            cases n with
            | no => exact absurd (of_decide_eq_true hb) (by intro z; cases z)
            | b x => have := of_decide_eq_true hb; cases this; rfl
            | k x => exact absurd (of_decide_eq_true hb) (by intro z; cases z)
          subst e
          exact ev_cS (l := nooL) rfl
        · cases n with
          | no => exact absurd rfl (of_decide_eq_false hb)
          | b x =>
            cases x with
            | true => exact absurd rfl (of_decide_eq_false hb2)
            | false => exact absurd rfl (of_decide_eq_false hb3)
          | k x => exact ev_fmtN (ev_var rfl) (GK.log g)
/-! ### needs -/
/-- a new tuple is returned -/
def Ru (H : Hp) (xs : List V) (Q : VK) : Prop := ∀ p H1, H p = none → Ex H H1 → H1 p = some (.tup xs) → Q (.ref p) H1
theorem eu_call {σ : L2.St} {H : Hp} {sp : Sp} {tA : TA} {vs xs : List V} {E : XK} (h : EvA tA σ H vs) (hs : ∀ H1, Ex H H1 → ∀ Q : VK, Ru H1 xs Q → ∀ E, sp vs H1 Q E) : EvU (tCall sp [] E tA) σ H xs := fun H1 e Q q => h H1 e _ fun H2 e2 => by
  rw [List.append_nil]
  exact hs H2 (e.trans e2) _ (fun p H3 np e3 hp => q p H3 (fresh_back e2 np) (e2.trans e3) hp) _
theorem cut_init (xs : List V) (h : xs ≠ []) : cutV xs none (some (-1)) = xs.dropLast ∧ ¬ (HT.sIx xs.length 0 none = 0 ∧ HT.sIx xs.length xs.length (some (-1)) = xs.length) := by
  have h1 := List.length_pos_iff.mpr h
  have e : HT.sIx xs.length xs.length (some (-1)) = xs.length - 1 := by
    show (if (-1 : Int) < 0 then ((-1 : Int) + (xs.length : Int)).toNat else min (-1 : Int).toNat xs.length) = _
    rw [if_pos (by decide)]
    omega
  refine ⟨?_, ?_⟩
  · unfold cutV
    rw [e, HT.sIx_none, List.drop_zero, Nat.sub_zero, List.dropLast_eq_take]
  · rw [e]
    omega
def sp_question (_ : PySem.W.Frag) : Sp := fun vs H Q _ => ∃ (a : Addr) (xs : List V), vs = [.ref a] ∧ H a = some (.tup xs) ∧ xs ≠ [] ∧ Ru H xs.dropLast Q
theorem ok_question {f : Addr} {C_Store C_Record C_Rule C_Book C_Job C_StoreReader : Addr} {fd : FuncData} (F : Fun K "question" "question" s_question f fd) (T : Tx mg) (G : Gx K mg) (TC_Store : Tc_Store K C_Store) (TC_Record : Tc_Record K C_Record) (TC_Rule : Tc_Rule K C_Rule) (TC_Book : Tc_Book K C_Book) (TC_Job : Tc_Job K C_Job) (TC_StoreReader : Tc_StoreReader K C_StoreReader)  : FnOk P w K mg base CX0 1 f fd ["need"] (sp_question K) := by
  refine F.ok sc_question (fun vs H Q E h => ?_) (fun cdv A outer s H vs Q E hr h => ?_)
  · obtain ⟨a, xs, rfl, _⟩ := h
    rfl
  · obtain ⟨a, xs, rfl, ha, hne, q⟩ := h
    refine ⟨_, (pss_one (ps_ret (pe_slice sl_tup (pv 0) po_none (po_some (pe_un un_neg pe_int))))), ?_⟩
    obtain ⟨e1, e2⟩ := cut_init xs hne
    have z := eu_sl (K := K) (σ := [some (.ref a)]) (te := tVar 0) (ev_var rfl) eo_none (eo_some (ev_un ev_c ru_neg)) ha e2
    rw [e1] at z
    exact s_retU z q
theorem drop_snoc (ws : List (List Nat)) (v : V) : (strsV ws ++ [v]).dropLast = strsV ws := List.dropLast_concat
theorem strs_snoc (ws : List (List Nat)) (x : List Nat) : strsV ws ++ [V.str (S x)] = strsV (ws ++ [x]) := by
  unfold strsV
  rw [List.map_append]
  rfl
def Szd (d : Nd) : Prop := d.ws.length ≤ 100 ∧ ((d.ws ++ [fmtSn d.sn]).map (·.length)).sum ≤ 5000
def sp__format_need (_ : PySem.W.Frag) : Sp := sp2 (fun (a : Addr) (_ : Nd) => [.ref a]) (fun a d H => H a = some (.tup (ndD d)) ∧ GSn d.sn ∧ Szd d) (fun _ d => .str (S (fmtNd d)))
theorem ok__format_need {f : Addr} {C_Store C_Record C_Rule C_Book C_Job C_StoreReader : Addr} {fd : FuncData} (F : Fun K "_format_need" "_format_need" s__format_need f fd) (T : Tx mg) (G : Gx K mg) (TC_Store : Tc_Store K C_Store) (TC_Record : Tc_Record K C_Record) (TC_Rule : Tc_Rule K C_Rule) (TC_Book : Tc_Book K C_Book) (TC_Job : Tc_Job K C_Job) (TC_StoreReader : Tc_StoreReader K C_StoreReader) (C_question : Kn.Cl P w K mg base 1 "question" (sp_question K)) (C__format_seen : Kn.Cl P w K mg base 1 "_format_seen" (sp__format_seen K)) : FnOk P w K mg base CX0 2 f fd ["need"] (sp__format_need K) := by
  refine F.ok sc__format_need (fun vs H Q E h => ?_) (fun cdv A outer s H vs Q E hr h => ?_)
  · obtain ⟨a, d, rfl, _⟩ := h
    rfl
  · obtain ⟨a, d, rfl, ⟨ha, g, hz⟩, q⟩ := h
    refine ⟨_, (pss_one (ps_ret (Kn.pe_joinN (pe_join pe_str (pe_op op_cat (pe_callTy Kn.cr_listS (by rfl) T.b_list (by decide +kernel) (pa_cons (Kn.pe_cl C_question hr (by decide) (by rfl) (pa_cons (pv 0) pa_nil)) pa_nil)) (pe_lst (pa_cons (Kn.pe_cl C__format_seen hr (by decide) (by rfl) (pa_cons (pe_ix ix_tup (pv 0) (pe_un un_neg pe_int) (fun _ _ => rfl)) pa_nil)) pa_nil))))))), ?_⟩
    refine s_ret (ev_join (s := [58]) (ys := d.ws ++ [fmtSn d.sn]) (ev_cS (l := [58]) rfl) ?_ ?_) q
    · show EvL _ _ _ (strsV (d.ws ++ [fmtSn d.sn]))
      rw [← strs_snoc]
      refine el_cat (el_listU (eu_call (xs := strsV d.ws) (ea_cons (ev_var rfl) ea_nil) fun H1 e1 Q q E => ⟨a, ndD d, rfl, e1 _ _ ha, by unfold ndD; simp, by unfold ndD; rw [drop_snoc]; exact q⟩)) (el_lst (ea_cons (ev_c1 (a := d.sn) (ea_cons (ev_op (ev_var rfl) (ev_un ev_c ru_neg) (rv_ixT (st_of ha) (at_last ?_))) ea_nil) fun _ _ => g) ea_nil) (by show 1 ≤ 100000; decide)) ?_
      · unfold ndD
        rw [List.length_append]
        show (strsV d.ws ++ [snD d.sn])[(strsV d.ws).length + 1 - 1]? = _
        rw [Nat.add_sub_cancel, List.getElem?_append_right (Nat.le_refl _), Nat.sub_self]
        rfl
      · have := hz.1
        unfold strsV
        rw [List.length_map]
        show d.ws.length + 1 ≤ 100000
        omega
    · have h1 := hz.1
      have h2 := hz.2
      rw [List.length_append]
      show _ + (d.ws.length + 1) * 1 ≤ _
      omega
end

/-! ### more of lists and joins -/
theorem pair_get {α β : Type} {F : α → β → Prop} : ∀ {as : List α} {bs : List β}, Paired F as bs → ∀ {i : Nat} {a : α}, as[i]? = some a → ∃ b, bs[i]? = some b ∧ F a b
  | _, _, .cons h r, 0, a, e => by
    simp at e
    subst e
    exact ⟨_, rfl, h⟩
  | _, _, .cons h r, i + 1, a, e => by
    simp at e
    obtain ⟨b, hb, hf⟩ := pair_get r e
    exact ⟨b, by simpa using hb, hf⟩
theorem join_len (s : Nat) : ∀ (ps : List (List Nat)), ps ≠ [] → (TL.joinL [s] ps).length + 1 = (ps.map (·.length)).sum + ps.length
  | [], h => absurd rfl h
  | [p], _ => by
    show p.length + 1 = (p.length + 0) + 1
    omega
  | p :: q :: r, _ => by
    have ih := join_len s (q :: r) (by simp)
    show (p ++ ([s] ++ TL.joinL [s] (q :: r))).length + 1 = _
    rw [List.length_append, List.length_append, List.map_cons, List.sum_cons, List.length_cons (a := p)]
    show p.length + (1 + _) + 1 = _
    omega
theorem mem_join {s c : Nat} : ∀ {ps : List (List Nat)} {p : List Nat}, p ∈ ps → c ∈ p → c ∈ TL.joinL [s] ps
  | [q], p, hp, hc => by
    rw [List.mem_singleton.mp hp] at hc
    exact hc
  | q :: t :: r, p, hp, hc => by
    show c ∈ q ++ ([s] ++ TL.joinL [s] (t :: r))
    rcases List.mem_cons.mp hp with z | z
    · subst z
      exact List.mem_append_left _ hc
    · exact List.mem_append_right _ (List.mem_append_right _ (mem_join z hc))
theorem part_le {p : List Nat} : ∀ {ps : List (List Nat)}, p ∈ ps → p.length ≤ (ps.map (·.length)).sum
  | q :: r, h => by
    rw [List.map_cons, List.sum_cons]
    rcases List.mem_cons.mp h with z | z
    · subst z
      omega
    · have := part_le z
      omega
section
variable {P : Program} {w : World} {K : PySem.W.Frag} {mg : Str → Option Value} {base : Heap}
theorem ev_joinT {σ : L2.St} {H : Hp} {ta tb : TE} {s : List Nat} {ys : List (List Nat)} {p : Addr} (hs : Ev ta σ H (.str (S s))) (hl : Ev tb σ H (.ref p)) (hp : H p = some (.tup (strsV ys))) (hz : (ys.map (·.length)).sum + ys.length * s.length ≤ 16777216) : Ev (tM1 (rJoin K) ta tb) σ H (.str (S (TL.joinL s ys))) := fun H1 e Q q =>
  hs H1 e _ fun H2 e2 => ⟨⟨_, rfl⟩, hl H2 (e.trans e2) _ fun H3 e3 => ⟨S s, p, ys.map S, rfl, rfl, .inr (by rw [List.map_map]; exact st_of (((e.trans e2).trans e3) _ _ hp)), by
    rw [SX.lens, List.length_map, S_len]
    exact hz, by
    rw [SX.join_S]
    exact q H3 (e2.trans e3)⟩⟩
theorem dta_strs {H : Hp} : ∀ ws : List (List Nat), DtA H (strsV ws) (ws.map fun l => .str (S l))
  | [] => .nil
  | w :: r => .cons (.str _) (dta_strs r)
theorem canL_strs : ∀ {ws : List (List Nat)}, (∀ x ∈ ws, ∀ c ∈ x, c < 128) → PyData.canLayAll0 (ws.map fun l => PyData.str (S l)) = true
  | [], _ => rfl
  | w :: r, h => can_cons (canS (by
      unfold okS
      rw [List.all_eq_true]
      exact fun c hc => decide_eq_true (by have := h w List.mem_cons_self c hc; omega))) (canL_strs fun x hx => h x (List.mem_cons_of_mem _ hx))
theorem depth_strs : ∀ ws : List (List Nat), PyData.depthAll (ws.map fun l => PyData.str (S l)) = 0
  | [] => rfl
  | w :: r => by
    show max 0 (PyData.depthAll (r.map fun l => PyData.str (S l))) = 0
    rw [depth_strs r]
    rfl
theorem shaped_strs {ws : List (List Nat)} (h : ∀ x ∈ ws, ∀ c ∈ x, c < 128) : SeqAt.shaped (.list (ws.map fun l => .str (S l))) = true := by
  show (PyData.canLayAll0 _ && decide (PyData.depthAll _ + 1 ≤ 64)) = true
  rw [canL_strs h, depth_strs]
  rfl
theorem shaped_strsT {ws : List (List Nat)} (h : ∀ x ∈ ws, ∀ c ∈ x, c < 128) : SeqAt.shaped (.tuple (ws.map fun l => .str (S l))) = true := by
  show (PyData.canLayAll0 _ && decide (PyData.depthAll _ + 1 ≤ 64)) = true
  rw [canL_strs h, depth_strs]
  rfl
/-! ### records are made -/
def sp_Record___init__ (C : Addr) (_ : PySem.W.Frag) : Sp := fun vs H Q _ => ∃ (p dx o t q : Addr) (k : Nat), vs = [.ref p, .ref o, .int (k : Int), .ref t, .ref q] ∧ H p = some (.ins C dx []) ∧ ∀ H', H' p = some (.ins C dx (fldR o k t q)) → (∀ b x, H b = some x → b ≠ p → H' b = some x) → Q .non H'
theorem ok_Record___init__ {f : Addr} {C_Store C_Record C_Rule C_Book C_Job C_StoreReader : Addr} {fd : FuncData} (F : Fun K "__init__" "Record.__init__" s_Record___init__ f fd) (T : Tx mg) (G : Gx K mg) (TC_Store : Tc_Store K C_Store) (TC_Record : Tc_Record K C_Record) (TC_Rule : Tc_Rule K C_Rule) (TC_Book : Tc_Book K C_Book) (TC_Job : Tc_Job K C_Job) (TC_StoreReader : Tc_StoreReader K C_StoreReader)  : FnOk P w K mg base CX0 1 f fd ["self", "outputs", "rule_key", "needs", "results"] (sp_Record___init__ C_Record K) := by
  refine F.ok sc_Record___init__ (fun vs H Q E h => ?_) (fun cdv A outer s H vs Q E hr h => ?_)
  · obtain ⟨p, dx, o, t, q, k, rfl, _⟩ := h
    rfl
  · obtain ⟨p, dx, o, t, q, k, rfl, hp, kk⟩ := h
    refine ⟨_, (pss_cons (ps_fld (pv 0) (pv 1) rfl)
      (pss_cons (ps_fld (pv 0) (pv 2) rfl)
      (pss_cons (ps_fld (pv 0) (pv 3) rfl)
      (pss_one (ps_fld (pv 0) (pv 4) rfl))))), ?_⟩
    refine ⟨_, rfl, _, rfl, p, C_Record, dx, _, rfl, hp, TC_Record.cl, TC_Record.na_outputs, (by show 0 < 1000; decide), ?_⟩
    refine ⟨_, rfl, _, rfl, p, C_Record, dx, _, rfl, upd_same, TC_Record.cl, TC_Record.na_rule_key, (by show 1 < 1000; decide), ?_⟩
    refine ⟨_, rfl, _, rfl, p, C_Record, dx, _, rfl, upd_same, TC_Record.cl, TC_Record.na_needs, (by show 2 < 1000; decide), ?_⟩
    refine ⟨_, rfl, _, rfl, p, C_Record, dx, _, rfl, upd_same, TC_Record.cl, TC_Record.na_results, (by show 3 < 1000; decide), ?_⟩
    refine kk _ upd_same fun b x hb hne => ?_
    rw [upd_ne hne, upd_ne hne, upd_ne hne, upd_ne hne]
    exact hb
/-- a new record -/
def Rr (C : Addr) (H : Hp) (r : Rc) (Q : VK) : Prop := ∀ p H1, H p = none → Ex H H1 → RcO C H1 p r → Q (.ref p) H1
theorem s_retRec {C : Addr} {H : Hp} {σ : L2.St} {D : Ends} {to tk tt tq : TE} {r : Rc} (ho : EvU to σ H (strsV r.outs)) (hk : ∀ H1, Ex H H1 → Ev tk σ H1 (.int (r.key : Int))) (ht : ∀ H1, Ex H H1 → EvNt tt σ H1 (r.needs.map ndD)) (hq : ∀ H1, Ex H H1 → EvU tq σ H1 (r.res.map fun n : Nat => V.int (n : Int))) (q : Rr C H r D.rt) :
    tRet (tMake C (sp_Record___init__ C K) [] E0 (tCons to (tCons tk (tCons tt (tCons tq tNil))))) D σ H :=
  ho H (Ex.refl H) _ fun o H1 no e1 h1 => hk H1 e1 H1 (Ex.refl H1) _ fun H2 e2 => ht H2 (e1.trans e2) H2 (Ex.refl H2) _ fun t as H3 nt e3 h3 h4 => hq H3 ((e1.trans e2).trans e3) H3 (Ex.refl H3) _ fun u H4 nu e4 h5 => by
    intro p dx np nx ne
    refine ⟨p, dx, o, t, u, r.key, rfl, upd_same, fun H5 h6 k6 => ⟨rfl, ?_⟩⟩
    have e45 : Ex H4 H5 := fun b x hb => k6 b x (by rw [upd_ne (ne_of_none hb np), upd_ne (ne_of_none hb nx)]; exact hb) (ne_of_none hb np)
    have e35 := e4.trans e45
    exact q p H5 (fresh_back (((e1.trans e2).trans e3).trans e4) np) ((((e1.trans e2).trans e3).trans e4).trans e45)
      ⟨dx, o, t, u, as, h6, (e2.trans (e3.trans e35)) _ _ h1, e35 _ _ h3, Paired.mapP h4 fun _ _ z => e35 _ _ z, e45 _ _ h5⟩
/-! ### records are written -/
/-- a record that is good and not too long -/
structure Fn (r : Rc) : Prop where
  g : GRc r
  x : Txl (fmtRc r)
theorem Fn.word {r : Rc} (f : Fn r) {w : List Nat} (hw : w ∈ Kn.Rp.words r) : w.length ≤ 2000 ∧ ∀ c ∈ w, c < 128 := by
  have h1 := join_len 32 (Kn.Rp.words r) (by unfold Kn.Rp.words; simp)
  have h2 := part_le hw
  have h3 : (Kn.Rp.words r).length = 4 := rfl
  have h4 := f.x.1
  have h5 : (fmtRc r).length = (TL.joinL [32] (Kn.Rp.words r)).length := rfl
  exact ⟨by omega, fun c hc => f.x.2 c (mem_join hw hc)⟩
theorem Fn.out {r : Rc} (f : Fn r) : (r.outs.map (·.length)).sum + r.outs.length ≤ 2001 ∧ ∀ o ∈ r.outs, ∀ c ∈ o, c < 128 := by
  have h := f.word (w := TL.joinL [44] r.outs) (by unfold Kn.Rp.words; simp)
  have := join_len 44 r.outs f.g.o1
  exact ⟨by omega, fun o ho c hc => h.2 c (mem_join ho hc)⟩
theorem res_ne {r : Rc} (g : GRc r) : r.res.map TL.numL ≠ [] := fun z => by
  have h1 := congrArg List.length z
  rw [List.length_map, g.rl] at h1
  exact g.o1 (List.length_eq_zero_iff.mp h1)
theorem Fn.rs {r : Rc} (f : Fn r) : ((r.res.map TL.numL).map (·.length)).sum + r.res.length ≤ 2001 := by
  have h := f.word (w := TL.joinL [44] (r.res.map TL.numL)) (by unfold Kn.Rp.words; simp)
  have := join_len 44 (r.res.map TL.numL) (res_ne f.g)
  rw [List.length_map] at this
  omega
theorem Fn.need {r : Rc} (f : Fn r) {d : Nd} (hd : d ∈ r.needs) : (fmtNd d).length ≤ 2000 ∧ (∀ c ∈ fmtNd d, c < 128) ∧ Szd d := by
  have h := f.word (w := fmtNds r.needs) (by unfold Kn.Rp.words; simp)
  have h0 : ¬ r.needs.length = 0 := fun z => by rw [List.length_eq_zero_iff.mp z] at hd; cases hd
  unfold fmtNds at h
  rw [if_neg h0] at h
  have hm : fmtNd d ∈ r.needs.map fmtNd := List.mem_map.mpr ⟨d, hd, rfl⟩
  have h1 := join_len 59 (r.needs.map fmtNd) (fun z => h0 (by have := congrArg List.length z; simpa using this))
  have h2 := part_le hm
  rw [List.length_map] at h1
  have h3 : (fmtNd d).length ≤ 2000 := by omega
  have h4 := join_len 58 (d.ws ++ [fmtSn d.sn]) (by simp)
  have h5 : (TL.joinL [58] (d.ws ++ [fmtSn d.sn])).length = (fmtNd d).length := rfl
  have h6 : (d.ws ++ [fmtSn d.sn]).length = d.ws.length + 1 := List.length_append
  have h7 := (f.g.nd d hd).ws
  refine ⟨h3, fun c hc => h.2 c (mem_join hm hc), ?_, by omega⟩
  have hpos : d.ws.length ≤ (d.ws.map (·.length)).sum + 5 := by
    cases f.g.nd d hd <;> simp
  rw [List.map_append, List.sum_append] at h4
  have h8 : d.ws.length ≤ 3 := by cases f.g.nd d hd <;> simp
  omega
theorem Fn.nds {r : Rc} (f : Fn r) : ((r.needs.map fmtNd).map (·.length)).sum + r.needs.length ≤ 2001 := by
  by_cases h0 : r.needs.length = 0
  · rw [List.length_eq_zero_iff.mp h0]
    decide
  · have h := f.word (w := fmtNds r.needs) (by unfold Kn.Rp.words; simp)
    unfold fmtNds at h
    rw [if_neg h0] at h
    have h1 := join_len 59 (r.needs.map fmtNd) (fun z => h0 (by have := congrArg List.length z; simpa using this))
    rw [List.length_map] at h1
    omega
def sp_format_record (C : Addr) (_ : PySem.W.Frag) : Sp := sp2 (fun (p : Addr) (_ : Rc) => [.ref p]) (fun p r H => RcO C H p r ∧ Fn r) (fun _ r => .str (S (fmtRc r)))
theorem ok_format_record {f : Addr} {C_Store C_Record C_Rule C_Book C_Job C_StoreReader : Addr} {fd : FuncData} (F : Fun K "format_record" "format_record" s_format_record f fd) (T : Tx mg) (G : Gx K mg) (TC_Store : Tc_Store K C_Store) (TC_Record : Tc_Record K C_Record) (TC_Rule : Tc_Rule K C_Rule) (TC_Book : Tc_Book K C_Book) (TC_Job : Tc_Job K C_Job) (TC_StoreReader : Tc_StoreReader K C_StoreReader) (C__format_need : Kn.Cl P w K mg base 2 "_format_need" (sp__format_need K)) : FnOk P w K mg base CX0 3 f fd ["record"] (sp_format_record C_Record K) := by
  refine F.ok sc_format_record (fun vs H Q E h => ?_) (fun cdv A outer s H vs Q E hr h => ?_)
  · obtain ⟨a, d, rfl, _⟩ := h
    rfl
  · obtain ⟨p, r, rfl, ⟨ho, f⟩, q⟩ := h
    refine ⟨_, (pss_cons (ps_setLc (i := 1) (own := [("need", 4)]) rfl sc_format_record.nd rfl rfl (sw_true rfl rfl rfl (by decide +kernel)) (pi_tup (pe_fld (pv 0) rfl)) (blkOk_by (own := [("need", 4)]) (N := N_format_record) (sc := defScope s_format_record) (by decide +kernel)) (fun _ _ _ _ _ => pg_name (i := 4) sc_format_record.nd rfl (Or.inl rfl)) (fun _ _ _ _ _ => pts_nil) (fun _ _ _ _ _ => (Kn.pe_cl C__format_need hr (by decide) (by rfl) (pa_cons (pv 4) pa_nil))))
      (pss_cons (ps_setLc (i := 2) (own := [("key", 5)]) rfl sc_format_record.nd rfl rfl (sw_true rfl rfl rfl (by decide +kernel)) (pi_tup (pe_fld (pv 0) rfl)) (blkOk_by (own := [("key", 5)]) (N := N_format_record) (sc := defScope s_format_record) (by decide +kernel)) (fun _ _ _ _ _ => pg_name (i := 5) sc_format_record.nd rfl (Or.inl rfl)) (fun _ _ _ _ _ => pts_nil) (fun _ _ _ _ _ => (pe_joined1 (pe_fmt (pv 5)))))
      (pss_cons (ps_set (i := 3) sc_format_record.nd rfl (Or.inl rfl) (pe_lst (pa_cons (Kn.pe_joinN (pe_join pe_str (pe_fld (pv 0) rfl))) (pa_cons (pe_joined1 (pe_fmt (pe_fld (pv 0) rfl))) (pa_cons (Kn.pe_joinN (pe_join pe_str (pv 1))) (pa_cons (Kn.pe_joinN (pe_join pe_str (pv 2))) pa_nil))))))
      (pss_cons (ps_if (pt_cmpR (op_eqD hr.units) (pv 1) (pe_lst pa_nil) (nomark _)) (pss_one (ps_asg (C8.pe_gc (by rfl) T.c_NOTHING) (pg_sub (pv 3) pe_int set_list))) pss_nil)
      (pss_one (ps_ret (Kn.pe_joinN (pe_join pe_str (pv 3))))))))), ?_⟩
    obtain ⟨dx, o, t, u, as, h1, h2, h3, h4, h5⟩ := ho.ex
    have hal : as.length = r.needs.length := by rw [Paired.length h4, List.length_map]
    have n60 := f.g.n60
    refine q_asgL (xs := strsV (r.needs.map fmtNd)) ?_ fun a H1 na e1 ha => ?_
    · have z := el_lcT (K := K) (σ := [some (.ref p), none, none, none, none, none]) (H := H) (a := t) (xs := as.map V.ref) (tl := tFld K (tVar 0) "needs") (te := tCall (sp__format_need K) [] E0 (tCons (tVar 4) tNil)) (t := tYes) (j := 4) (vs := [4]) (fun _ => true) (fun i => ((r.needs.map fmtNd)[i]?.map fun l => V.str (S l)).getD .non)
        (ev_fld (ev_var rfl) h1 TC_Record.cl TC_Record.na_needs (fr_n o r.key t u)) h3 (by rw [List.length_map]; omega) (fun _ => rfl) (fun _ _ _ _ _ => et_yes) (fun i x H1 e1 hi _ => ?_)
      · rw [List.length_map, hal, ← List.length_map (f := fmtNd) (as := r.needs), given_all] at z
        exact z
      · rw [List.getElem?_map] at hi
        obtain ⟨a, ha, rfl⟩ := Option.map_eq_some_iff.mp hi
        obtain ⟨y, hy, hay⟩ := pair_get h4 ha
        rw [List.getElem?_map] at hy
        obtain ⟨d, hd, rfl⟩ := Option.map_eq_some_iff.mp hy
        show Ev _ _ _ (((r.needs.map fmtNd)[i]?.map fun l => V.str (S l)).getD .non)
        rw [List.getElem?_map, hd]
        have hm := List.mem_of_getElem? hd
        exact ev_c2 (a := a) (b := d) (ea_cons (ev_var rfl) ea_nil) fun H2 e2 => ⟨e2 _ _ (e1 _ _ hay), (f.g.nd d hm).sn, (f.need hm).2.2⟩
    · refine q_asgL (xs := strsV (r.res.map TL.numL)) ?_ fun b H2 nb e2 hb => ?_
      · rw [show strsV (r.res.map TL.numL) = r.res.map fun n => V.str (S (TL.numL n)) from List.map_map ..]
        exact el_lcTM (g := fun n : Nat => V.int (n : Int)) (ev_fld (ev_var rfl) (e1 _ _ h1) TC_Record.cl TC_Record.na_results (fr_r o r.key t u)) (e1 _ _ h5) (by rw [f.g.rl]; have := f.g.o3; omega) (fun _ => rfl) fun n hn H2 e2 => ev_fmtN (ev_var rfl) (f.g.rk n hn).log
      · have e12 := e1.trans e2
        have hfo := f.out.1
        have hfn := f.nds
        have hfr := f.rs
        have hw4 : (strsV [TL.joinL [44] r.outs, TL.numL r.key, TL.joinL [59] (r.needs.map fmtNd), TL.joinL [44] (r.res.map TL.numL)]).length ≤ 100000 := by show 4 ≤ 100000; decide
        refine q_asgL (xs := strsV [TL.joinL [44] r.outs, TL.numL r.key, TL.joinL [59] (r.needs.map fmtNd), TL.joinL [44] (r.res.map TL.numL)]) (el_lst (ea_cons (ev_joinT (ev_cS (l := [44]) rfl) (ev_fld (ev_var rfl) (e12 _ _ h1) TC_Record.cl TC_Record.na_outputs (fr_o o r.key t u)) (e12 _ _ h2) (by show _ + _ * 1 ≤ _; omega)) (ea_cons (ev_fmtN (ev_fld (ev_var rfl) (e12 _ _ h1) TC_Record.cl TC_Record.na_rule_key (fr_k o r.key t u)) f.g.kk.log) (ea_cons (ev_joinV (ev_cS (l := [59]) rfl) (ev_var rfl) (sq_of (e2 _ _ ha)) (by rw [List.length_map]; show _ + _ * 1 ≤ _; omega)) (ea_cons (ev_joinV (ev_cS (l := [44]) rfl) (ev_var rfl) (sq_of hb) (by rw [List.length_map]; show _ + _ * 1 ≤ _; omega)) ea_nil)))) hw4) fun c H3 nc e3 hc => ?_
        have e13 := e12.trans e3
        have hsh : ∀ x ∈ r.needs.map fmtNd, ∀ c ∈ x, c < 128 := fun x hx => by
          obtain ⟨d, hd, rfl⟩ := List.mem_map.mp hx
          exact (f.need hd).2.1
        have hwd := fun w hw => f.word (w := w) hw
        have key : ∀ (H' : Hp) (ws : List (List Nat)), Ex H H' → H' c = some (.lst (strsV ws)) → ws = Kn.Rp.words r → Ev (tM1 (rJoin K) (tC (.str (Str.ofString " "))) (tVar 3)) [some (.ref p), some (.ref a), some (.ref b), some (.ref c), none, none] H' (.str (S (fmtRc r))) := fun H' ws e hc' hws => by
          subst hws
          refine ev_joinV (ev_cS (l := [32]) rfl) (ev_var rfl) (sq_of hc') ?_
          have h1 := join_len 32 (Kn.Rp.words r) (by unfold Kn.Rp.words; simp)
          have h3 : (Kn.Rp.words r).length = 4 := rfl
          have h4 := f.x.1
          have h5 : (fmtRc r).length = (TL.joinL [32] (Kn.Rp.words r)).length := rfl
          show _ + _ * 1 ≤ _
          omega
        have hev : Ev (tOp (rEqD K) (tVar 1) (tLst tNil)) [some (.ref p), some (.ref a), some (.ref b), some (.ref c), none, none] H3 (.bl (PyData.eqv (.list ((r.needs.map fmtNd).map fun l => .str (S l))) (.list []))) :=
          ev_eqD (evd_of (ev_var rfl) (.lst (e3 _ _ (e2 _ _ ha)) (dta_strs _))) (evd_lst eda_nil (by show 0 ≤ 100000; decide)) (shaped_strs hsh) (shaped_strs (ws := []) (fun _ h => nomatch h))
        by_cases h0 : r.needs.length = 0
        · have hn0 := List.length_eq_zero_iff.mp h0
          refine q_when (b := true) (et_is (et_test hev) (by rw [hn0]; rfl)) (fun _ H4 e4 => ?_) (fun z => nomatch z)
          refine s_setL (j := 2) (e4 _ _ hc) (ev_cS (l := [45]) rfl) (ev_var rfl) ev_c (by show 2 < 4; decide) fun H5 e5 => ?_
          refine s_ret (key _ [TL.joinL [44] r.outs, TL.numL r.key, [45], TL.joinL [44] (r.res.map TL.numL)] (Ex.mut ((e13.trans e4).trans e5) (fresh_back e12 nc)) upd_same ?_) fun H6 e6 => q H6 ((Ex.mut ((e13.trans e4).trans e5) (fresh_back e12 nc)).trans e6)
          unfold Kn.Rp.words fmtNds
          rw [if_pos h0]
        · refine q_when (b := false) (et_is (et_test hev) (by
            cases hn : r.needs with
            | nil => rw [hn] at h0; exact absurd rfl h0
            | cons d t => rfl)) (fun z => nomatch z) fun _ H4 e4 => ?_
          refine s_ret (key _ _ (e13.trans e4) (e4 _ _ hc) ?_) fun H6 e6 => q H6 ((e13.trans e4).trans e6)
          unfold Kn.Rp.words fmtNds
          rw [if_neg h0]
end

/-! ### scanning -/
def unt : List Nat := (Str.ofString "unterminated string").cps.toList
def escR : List Nat := (Str.ofString "invalid escape").cps.toList
def SGN : List Nat := (Str.ofString "(),+").cps.toList
def WEN : List Nat := (Str.ofString " \"(),+").cps.toList
def kStr : List Nat := (Str.ofString "string").cps.toList
def kSig : List Nat := (Str.ofString "sign").cps.toList
def kWrd : List Nat := (Str.ofString "word").cps.toList
def escF : List (Str × V) := [("n", .str (Str.ofString "\n")), (Str.ofString "\"", .str (Str.ofString "\"")), (Str.ofString "\\", .str (Str.ofString "\\"))]
def escOf (c : Nat) : Option Nat := if c = 110 then some 10 else if c = 34 then some 34 else if c = 92 then some 92 else none
theorem esc_look (c : Nat) : wdLook escF (S [c]) = (escOf c).map fun d => V.str (S [d]) := by
  have e1 : ("n" : Str) = S [110] := S1 _ (by decide +kernel)
  have e2 : Str.ofString "\"" = S [34] := S1 _ (by decide +kernel)
  have e3 : Str.ofString "\\" = S [92] := S1 _ (by decide +kernel)
  have e4 : Str.ofString "\n" = S [10] := S1 _ (by decide +kernel)
  have inj : ∀ {a b : Nat}, (S [a] = S [b]) ↔ a = b := fun {a b} => ⟨fun h => (List.cons.inj (S_inj h)).1, fun h => by rw [h]⟩
  unfold wdLook escF escOf
  rw [e1, e2, e3, e4]
  by_cases h1 : c = 110
  · subst h1
    rw [List.find?_cons]
    simp
  · rw [if_neg h1, List.find?_cons, decide_eq_false (fun z => h1 (inj.mp z).symm)]
    by_cases h2 : c = 34
    · subst h2
      rw [List.find?_cons]
      simp
    · rw [if_neg h2]
      dsimp only
      rw [List.find?_cons, decide_eq_false (fun z => h2 (inj.mp z).symm)]
      by_cases h3 : c = 92
      · subst h3
        rw [List.find?_cons]
        simp
      · rw [if_neg h3]
        dsimp only
        rw [List.find?_cons, decide_eq_false (fun z => h3 (inj.mp z).symm)]
        rfl
theorem esc_look0 : wdLook escF (S []) = none := by
  have ne : ∀ {a : Nat}, ¬ S [a] = S [] := fun {a} h => List.cons_ne_nil _ _ (S_inj h)
  have e1 : ("n" : Str) = S [110] := S1 _ (by decide +kernel)
  have e2 : Str.ofString "\"" = S [34] := S1 _ (by decide +kernel)
  have e3 : Str.ofString "\\" = S [92] := S1 _ (by decide +kernel)
  unfold wdLook escF
  rw [e1, e2, e3, List.find?_cons, decide_eq_false ne]
  dsimp only
  rw [List.find?_cons, decide_eq_false ne]
  dsimp only
  rw [List.find?_cons, decide_eq_false ne]
  rfl
/-- what reading gives: or the column and the reason of the first error -/
abbrev Rs (α : Type) := α ⊕ (Nat × List Nat)
/-- the part of a string at an index: its text and the index behind it -/
def partG (l : List Nat) (at_ : Nat) : Rs (List Nat × Nat) := match l.drop at_ with
  | [] => .inl ([], at_)
  | c :: r => if c = 92 then (match r with
      | [] => .inl ([], at_ + 2)
      | d :: _ => match escOf d with
        | some e => .inl ([e], at_ + 2)
        | none => .inr (at_ + 1, escR)) else .inl ([c], at_ + 1)
/-- the string whose first quote is at q -/
def strG : List Nat → Nat → Nat → List Nat → Rs (List Nat × Nat)
  | [], _, q, _ => .inr (q + 1, unt)
  | c :: r, at_, q, acc => if c = 34 then .inl (acc, at_ + 1) else if c = 92 then (match r with
      | [] => .inr (q + 1, unt)
      | d :: r' => match escOf d with
        | some e => strG r' (at_ + 2) q (acc ++ [e])
        | none => .inr (at_ + 1, escR)) else strG r (at_ + 1) q (acc ++ [c])
def skip (l : List Nat) (at_ : Nat) : Nat := at_ + ((l.drop at_).takeWhile fun c => decide (c = 32)).length
abbrev Tok3 := List Nat × List Nat × Nat
def wordG (l : List Nat) (at_ : Nat) : List Nat := (l.drop at_).takeWhile fun c => !decide (c ∈ WEN)
/-- the kind and the text of the token at an index, and the index behind it -/
def tokG (l : List Nat) (at_ : Nat) : Rs Tok3 := match l.drop at_ with
  | [] => .inl (kWrd, [], at_)
  | c :: r => if c = 34 then (match strG r (at_ + 1) at_ [] with
      | .inl (t, b) => .inl (kStr, t, b)
      | .inr e => .inr e) else if c ∈ SGN then .inl (kSig, [c], at_ + 1) else .inl (kWrd, wordG l at_, at_ + (wordG l at_).length)
def scanG (l : List Nat) : Nat → Nat → List Tok3 → Rs (List Tok3)
  | 0, _, acc => .inl acc
  | n + 1, at_, acc => if at_ < l.length then (match tokG l at_ with
      | .inl (k, t, b) => scanG l n (skip l b) (acc ++ [(k, t, at_ + 1)])
      | .inr e => .inr e) else .inl acc
def isRem (l : List Nat) : Bool := decide ((l.dropWhile fun d => decide (d = 32))[0]? = some 35)
def scan (l : List Nat) : Rs (List Tok3) := if isRem l = true then .inl [] else scanG l l.length (skip l 0) []
def pairD (x : List Nat × Nat) : PyData := .tuple [.str (S x.1), .int (x.2 : Int)]
def tokD (x : Tok3) : PyData := .tuple [.str (S x.1), .str (S x.2.1), .int (x.2.2 : Int)]
/-- what a reading def promises -/
def Rd_ {α : Type} (D : α → PyData) (H : Hp) (Q : VK) (E : XK) (C : Addr) (path : List Nat) (num : Nat) (r : Rs α) : Prop :=
  (∀ x, r = .inl x → RtD H (D x) Q) ∧ ∀ c why, r = .inr (c, why) → Rz4 H E C path num c why
theorem drop_get {l : List Nat} {i c : Nat} (h : l[i]? = some c) : l.drop i = c :: l.drop (i + 1) := by
  obtain ⟨hi, e⟩ := List.getElem?_eq_some_iff.mp h
  rw [List.drop_eq_getElem_cons hi, e]
theorem tw_mem {p : Nat → Bool} {l : List Nat} {a : Nat} (h : l.length ≤ a) : l.drop a = [] := List.drop_of_length_le h
theorem skip_ge (l : List Nat) (a : Nat) : a ≤ skip l a := Nat.le_add_right _ _
theorem skip_end {l : List Nat} {a : Nat} (h : ¬ (a < l.length ∧ l[a]? = some 32)) : skip l a = a := by
  unfold skip
  by_cases ha : a < l.length
  · have e : l[a]? = some l[a] := List.getElem?_eq_getElem ha
    rw [drop_get e, List.takeWhile_cons, decide_eq_false (fun z => h ⟨ha, by rw [e, z]⟩)]
    rfl
  · rw [tw_mem (p := fun _ => true) (by omega)]
    rfl
theorem skip_step {l : List Nat} {a : Nat} (h : l[a]? = some 32) : skip l a = skip l (a + 1) := by
  unfold skip
  rw [drop_get h, List.takeWhile_cons, decide_eq_true rfl]
  show a + ((l.drop (a + 1)).takeWhile fun c => decide (c = 32)).length.succ = _
  omega
section
variable {P : Program} {w : World} {K : PySem.W.Frag} {mg : Str → Option Value} {base : Heap}
def sp__skip_spaces (_ : PySem.W.Frag) : Sp := sp2 (fun (l : List Nat) (a : Nat) => [.str (S l), .int (a : Int)]) (fun l a _ => l.length ≤ 30000) (fun l a => .int (skip l a : Nat))
theorem ok__skip_spaces {f : Addr} {C_Store C_Record C_Rule C_Book C_Job C_StoreReader : Addr} {fd : FuncData} (F : Fun K "_skip_spaces" "_skip_spaces" s__skip_spaces f fd) (T : Tx mg) (G : Gx K mg) (TC_Store : Tc_Store K C_Store) (TC_Record : Tc_Record K C_Record) (TC_Rule : Tc_Rule K C_Rule) (TC_Book : Tc_Book K C_Book) (TC_Job : Tc_Job K C_Job) (TC_StoreReader : Tc_StoreReader K C_StoreReader)  : FnOk P w K mg base CX0 1 f fd ["line", "start"] (sp__skip_spaces K) := by
  refine F.ok sc__skip_spaces (fun vs H Q E h => ?_) (fun cdv A outer s H vs Q E hr h => ?_)
  · obtain ⟨l, a, rfl, _⟩ := h
    rfl
  · obtain ⟨l, a, rfl, hl, q⟩ := h
    refine ⟨_, (pss_cons (ps_set (i := 2) sc__skip_spaces.nd rfl (Or.inl rfl) (pv 1))
      (pss_cons (ps_while PassesOwn.never (PW.pt (pw_and (pt_cmpR op_lt (pv 2) (pe_callB Kn.cr_lenStr (by rfl) T.b_len PySem.boot_len (pa_cons (pv 0) pa_nil)) (nomark _)) (pw_and1 (pt_cmpR op_eq (pe_ix ix_str (pv 0) (pv 2) (fun _ _ => rfl)) pe_str (nomark _))))) (pss_one (ps_aug (i := 2) sc__skip_spaces.nd rfl (Or.inl rfl) pe_int ip_add)))
      (pss_one (ps_ret (pv 2))))), ?_⟩
    refine q_asg (ev_var rfl) fun H1 e1 => ?_
    refine q_while (fun m σ' H' => ∃ b, m = l.length - b ∧ σ' = [some (.str (S l)), some (.int (a : Int)), some (.int (b : Int))] ∧ Ex H H' ∧ skip l b = skip l a) (l.length - a) ⟨a, rfl, rfl, e1, rfl⟩ ?_
    rintro m σ' H2 ⟨b, rfl, rfl, e2, hb⟩
    refine ⟨decide ((b : Int) < (l.length : Int)) && decide (l[b]? = some 32), et_and (et_test (ev_op (ev_var rfl) (ev_cb (ea_cons (ev_var rfl) ea_nil) (rc_lenS (by omega))) rv_lt)) fun h => ?_, fun h H3 e3 => ?_, fun h H3 e3 => ?_⟩
    · have hlt : b < l.length := by
        have := of_decide_eq_true h
        omega
      have e := List.getElem?_eq_getElem hlt
      rw [e]
      exact et_is (et_test (ev_op (ev_idxS (ev_var rfl) (ev_var rfl) (by omega) (atI_nat e)) (ev_cS (l := [32]) rfl) rv_eqS)) (by simp)
    · rw [Bool.and_eq_true, decide_eq_true_eq, decide_eq_true_eq] at h
      refine ⟨fun σ' H' => σ' = [some (.str (S l)), some (.int (a : Int)), some (.int ((b : Int) + 1))] ∧ Ex H H', fun σ2 H4 ⟨z1, z2⟩ => ⟨l.length - (b + 1), by omega, b + 1, rfl, by rw [z1, Int.natCast_add]; rfl, z2, by rw [← skip_step h.2, hb]⟩, ?_⟩
      exact s_aug (a := (b : Int)) (b := 1) rfl ev_c fun H4 e4 => ⟨rfl, (e2.trans e3).trans e4⟩
    · refine s_ret (v := .int ((skip l a : Nat) : Int)) (ev_is (ev_var rfl) ?_) fun H4 e4 => q H4 ((e2.trans e3).trans e4)
      rw [← hb, skip_end fun z => ?_]
      rw [decide_eq_true (show (b : Int) < (l.length : Int) by omega), decide_eq_true z.2] at h
      cases h
/-- reading a line: the arguments -/
def ScA (path l : List Nat) (num a : Nat) : Prop := path.length ≤ 9000 ∧ l.length ≤ 30000 ∧ num < 10 ^ 9 ∧ a ≤ 40000
def sp__string_part (G : Gx K mg) : Sp := fun vs H Q E => ∃ (path l : List Nat) (num a : Nat), vs = [.str (S path), .int (num : Int), .str (S l), .int (a : Int)] ∧ ScA path l num a ∧ a < l.length ∧ Rd_ pairD H Q E G.c_InvalidRecipe path num (partG l a)
theorem nf4 (G : Gx K mg) : Nf4 K G.c_InvalidRecipe := ⟨G.n_InvalidRecipe_path, G.n_InvalidRecipe_line, G.n_InvalidRecipe_column, G.n_InvalidRecipe_reason⟩
theorem evd_pair {σ : L2.St} {H : Hp} {t1 t2 : TE} {t : List Nat} {b : Nat} (h1 : Ev t1 σ H (.str (S t))) (h2 : Ev t2 σ H (.int (b : Int))) : EvD (tTup (tCons t1 (tCons t2 tNil))) σ H (pairD (t, b)) :=
  evd_tup (eda_cons (evd_str h1) (eda_cons (evd_int h2) eda_nil)) (by show 2 ≤ 100000; decide)
theorem ev_addN {σ : L2.St} {H : Hp} {te : TE} {n m : Nat} {k : Int} (h : Ev te σ H (.int (n : Int))) (hk : k = (m : Int)) : Ev (tOp (rI0 fun i j => .int (i + j)) te (tC (.int k))) σ H (.int ((n + m : Nat) : Int)) := by
  subst hk
  exact ev_is (ev_op h ev_c rv_I0) (by rw [Int.natCast_add])
theorem ok__string_part {f : Addr} {C_Store C_Record C_Rule C_Book C_Job C_StoreReader : Addr} {fd : FuncData} (F : Fun K "_string_part" "_string_part" s__string_part f fd) (T : Tx mg) (G : Gx K mg) (TC_Store : Tc_Store K C_Store) (TC_Record : Tc_Record K C_Record) (TC_Rule : Tc_Rule K C_Rule) (TC_Book : Tc_Book K C_Book) (TC_Job : Tc_Job K C_Job) (TC_StoreReader : Tc_StoreReader K C_StoreReader) (Z_InvalidRecipe : Kn.Xk P w K mg base 1 "InvalidRecipe" G.c_InvalidRecipe (sp_I4 K)) {D_ESCAPES : Addr} (W_ESCAPES : Kn.WD K w mg "ESCAPES" D_ESCAPES escF) : FnOk P w K mg base (L2.CX P w) 3 f fd ["path", "number", "line", "at"] (sp__string_part G) := by
  refine F.okX sc__string_part (fun vs H Q E h => ?_) (fun cdv A outer s H vs Q E hr h => ?_)
  · obtain ⟨path, l, num, a, rfl, _⟩ := h
    rfl
  · obtain ⟨path, l, num, a, rfl, ⟨hp, hl, hn, ha⟩, hal, q, qe⟩ := h
    refine ⟨_, (pss_cons (ps_if (pt_cmpR op_ne (pe_ix ix_str (pv 2) (pv 3) (fun _ _ => rfl)) (C8.pe_gc (by rfl) T.c_BACKSLASH) (nomark _)) (pss_one (ps_ret (pe_tup (pa_cons (pe_ix ix_str (pv 2) (pv 3) (fun _ _ => rfl)) (pa_cons (pe_op op_add (pv 3) pe_int) pa_nil))))) pss_nil)
      (pss_cons (ps_set (i := 4) sc__string_part.nd rfl (Or.inl rfl) (pe_slice sl_str (pv 2) (po_some (pe_op op_add (pv 3) pe_int)) (po_some (pe_op op_add (pv 3) pe_int))))
      (pss_cons (ps_if (PW.pt (pw_and (pt_cmpR op_ne (pv 4) pe_str (nomark _)) (pw_and1 (pt_cmpR (Kn.op_notIn_wd W_ESCAPES) (pv 4) (Kn.pe_wd W_ESCAPES (by rfl)) rfl)))) (pss_one (Kn.ps_xk Z_InvalidRecipe hr (by decide) rfl (takes_of rfl rfl rfl rfl) (by rfl) (pa_cons (pv 0) (pa_cons (pv 1) (pa_cons (pe_op op_add (pv 3) pe_int) (pa_cons pe_str pa_nil)))))) pss_nil)
      (pss_one (ps_ret (pe_tup (pa_cons (Kn.pe_wget2 W_ESCAPES (Kn.pe_wd W_ESCAPES (by rfl)) (pv 4) pe_str ⟨rfl, rfl, rfl, rfl⟩) (pa_cons (pe_op op_add (pv 3) pe_int) pa_nil)))))))), ?_⟩
    have eg := List.getElem?_eq_getElem hal
    generalize l[a] = c at eg
    have hd := drop_get eg
    refine q_when (b := !decide (c = 92)) (et_is (et_test (ev_op (ev_idxS (ev_var rfl) (ev_var rfl) (by omega) (atI_nat eg)) (ev_cS (l := [92]) rfl) rv_neS)) (by simp)) (fun hb H1 e1 => ?_) fun hb H1 e1 => ?_
    · have hc : ¬ c = 92 := fun z => by rw [decide_eq_true z] at hb; cases hb
      have hr2 : partG l a = .inl ([c], a + 1) := by unfold partG; rw [hd]; dsimp only; rw [if_neg hc]
      exact s_retD (evd_pair (ev_idxS (ev_var rfl) (ev_var rfl) (by omega) (atI_nat eg)) (ev_addN (m := 1) (ev_var rfl) rfl)) (((q _ hr2).mono e1))
    have hc : c = 92 := by
      by_cases z : c = 92
      · exact z
      · rw [decide_eq_false z] at hb; cases hb
    refine q_asg (v := .str (S ((l.drop (a + 1)).take 1))) (ev_is (ev_slS (ev_var rfl) (eo_some (ev_addN (m := 1) (ev_var rfl) rfl)) (eo_some (ev_addN (m := 2) (ev_var rfl) rfl)) (by omega)) (by rw [cutS_nat]; congr 3; omega)) fun H2 e2 => ?_
    cases hrest : l.drop (a + 1) with
    | nil =>
      have hr2 : partG l a = .inl ([], a + 2) := by unfold partG; rw [hd, hrest]; dsimp only; rw [if_pos hc]
      refine q_when (b := false) (et_is (et_and (a := false) (b := false) (et_is (et_test (ev_op (ev_var rfl) (ev_cS (l := []) rfl) rv_neS)) (by simp)) fun z => nomatch z) rfl) (fun z => nomatch z) fun _ H3 e3 => ?_
      refine s_retD (evd_pair (ev_is (ev_wget2 (l := []) ev_c (ev_var rfl) (ev_cS (l := []) rfl)) (by rw [esc_look0]; rfl)) (ev_addN (m := 2) (ev_var rfl) rfl)) ((q _ hr2).mono ((e1.trans e2).trans e3))
    | cons d r =>
      have hlk := esc_look d
      cases he : escOf d with
      | none =>
        rw [he] at hlk
        have hr2 : partG l a = .inr (a + 1, escR) := by unfold partG; rw [hd, hrest]; dsimp only; rw [if_pos hc, he]
        refine q_when (b := true) (et_is (et_and (a := true) (b := true) (et_is (et_test (ev_op (ev_var rfl) (ev_cS (l := []) rfl) rv_neS)) (by simp)) fun _ => et_is (et_test (ev_op (ev_var rfl) ev_c (rv_wnin (l := [d])))) (by rw [hlk]; rfl)) rfl) (fun _ H3 e3 => ?_) (fun z => nomatch z)
        exact raise4 (W := fun cls d _ H => E cls d H) (n := num) (c := a + 1) G.x_InvalidRecipe.oe (nf4 G) ⟨hp, by decide +kernel, hn, by omega⟩ (ev_var rfl) (ev_var rfl) (ev_addN (m := 1) (ev_var rfl) rfl) (ev_cS (l := escR) rfl) fun d2 H' e hd2 => qe _ _ hr2 d2 H' (((e1.trans e2).trans e3).trans e) hd2
      | some e0 =>
        rw [he] at hlk
        have hr2 : partG l a = .inl ([e0], a + 2) := by unfold partG; rw [hd, hrest]; dsimp only; rw [if_pos hc, he]
        refine q_when (b := false) (et_is (et_and (a := true) (b := false) (et_is (et_test (ev_op (ev_var rfl) (ev_cS (l := []) rfl) rv_neS)) (by simp)) fun _ => et_is (et_test (ev_op (ev_var rfl) ev_c (rv_wnin (l := [d])))) (by rw [hlk]; rfl)) rfl) (fun z => nomatch z) fun _ H3 e3 => ?_
        refine s_retD (evd_pair (ev_is (ev_wget2 (l := [d]) ev_c (ev_var rfl) (ev_cS (l := []) rfl)) (by rw [hlk]; rfl)) (ev_addN (m := 2) (ev_var rfl) rfl)) ((q _ hr2).mono ((e1.trans e2).trans e3))
end

section
variable {P : Program} {w : World} {K : PySem.W.Frag} {mg : Str → Option Value} {base : Heap}
def sp__string (G : Gx K mg) : Sp := fun vs H Q E => ∃ (path l : List Nat) (num a : Nat), vs = [.str (S path), .int (num : Int), .str (S l), .int (a : Int)] ∧ ScA path l num a ∧ a < l.length ∧ Rd_ pairD H Q E G.c_InvalidRecipe path num (strG (l.drop (a + 1)) (a + 1) a [])
theorem strG_cons {c : Nat} {r : List Nat} {b q : Nat} {acc : List Nat} : strG (c :: r) b q acc = if c = 34 then .inl (acc, b + 1) else if c = 92 then (match r with
      | [] => .inr (q + 1, unt)
      | d :: r' => match escOf d with
        | some e => strG r' (b + 2) q (acc ++ [e])
        | none => .inr (b + 1, escR)) else strG r (b + 1) q (acc ++ [c]) := by
  conv => lhs; unfold strG
theorem strG_nil {b q : Nat} {acc : List Nat} : strG [] b q acc = .inr (q + 1, unt) := by unfold strG; rfl
theorem str_part {l : List Nat} {b q : Nat} {acc t : List Nat} {b2 : Nat} (hb : b < l.length) (hc : l[b]? ≠ some 34) (h : partG l b = .inl (t, b2)) : strG (l.drop b) b q acc = strG (l.drop b2) b2 q (acc ++ t) ∧ b < b2 ∧ b2 ≤ b + 2 := by
  have eg := List.getElem?_eq_getElem hb
  generalize l[b] = c at eg
  have hd := drop_get eg
  have hc34 : ¬ c = 34 := fun z => hc (by rw [eg, z])
  unfold partG at h
  rw [hd] at h ⊢
  dsimp only at h
  rw [strG_cons, if_neg hc34]
  by_cases h92 : c = 92
  · rw [if_pos h92] at h ⊢
    cases hr : l.drop (b + 1) with
    | nil =>
      rw [hr] at h
      cases h
      have e2 : l.drop (b + 2) = [] := by
        have : l.length ≤ b + 1 := List.drop_eq_nil_iff.mp hr
        exact List.drop_of_length_le (by omega)
      rw [e2]
      exact ⟨strG_nil.symm, by omega, by omega⟩
    | cons d r =>
      rw [hr] at h
      dsimp only at h ⊢
      have e2 : l.drop (b + 2) = r := by
        have : l.drop (b + 1 + 1) = (l.drop (b + 1)).drop 1 := by rw [List.drop_drop]
        rw [this, hr]
        rfl
      cases he : escOf d with
      | none => rw [he] at h; cases h
      | some e =>
        rw [he] at h
        cases h
        rw [e2]
        exact ⟨rfl, by omega, by omega⟩
  · rw [if_neg h92] at h ⊢
    cases h
    exact ⟨rfl, by omega, by omega⟩
theorem str_err {l : List Nat} {b q : Nat} {acc : List Nat} {e : Nat × List Nat} (hb : b < l.length) (hc : l[b]? ≠ some 34) (h : partG l b = .inr e) : strG (l.drop b) b q acc = .inr e := by
  have eg := List.getElem?_eq_getElem hb
  generalize l[b] = c at eg
  have hd := drop_get eg
  have hc34 : ¬ c = 34 := fun z => hc (by rw [eg, z])
  unfold partG at h
  rw [hd] at h ⊢
  dsimp only at h
  rw [strG_cons, if_neg hc34]
  by_cases h92 : c = 92
  · rw [if_pos h92] at h ⊢
    cases hr : l.drop (b + 1) with
    | nil => rw [hr] at h; cases h
    | cons d r =>
      rw [hr] at h
      dsimp only at h ⊢
      cases he : escOf d with
      | none => rw [he] at h; cases h; rfl
      | some e => rw [he] at h; cases h
  · rw [if_neg h92] at h
    cases h
theorem sum_app (ps : List (List Nat)) (t : List Nat) : ((ps ++ [t]).map (·.length)).sum = (ps.map (·.length)).sum + t.length := by
  rw [List.map_append, List.sum_append]
  simp
theorem part_len {l : List Nat} {b b2 : Nat} {t : List Nat} (h : partG l b = .inl (t, b2)) : t.length ≤ 1 := by
  unfold partG at h
  split at h
  · cases h; simp
  · split at h
    · split at h
      · cases h; simp
      · split at h
        · cases h; simp
        · cases h
    · cases h; simp
theorem pairD_inv {H : Hp} {v : V} {x : List Nat × Nat} (h : Dt H v (pairD x)) : ∃ a, v = .ref a ∧ H a = some (.tup [.str (S x.1), .int (x.2 : Int)]) := by
  obtain ⟨a, xs, rfl, ha, hx⟩ := Dt.tup_inv h
  cases hx with
  | cons h1 r1 =>
    cases r1 with
    | cons h2 r2 =>
      cases r2
      rw [h1.str_inv, h2.int_inv] at ha
      exact ⟨a, rfl, ha⟩
theorem tokD_inv {H : Hp} {v : V} {x : Tok3} (h : Dt H v (tokD x)) : ∃ a, v = .ref a ∧ H a = some (.tup [.str (S x.1), .str (S x.2.1), .int (x.2.2 : Int)]) := by
  obtain ⟨a, xs, rfl, ha, hx⟩ := Dt.tup_inv h
  cases hx with
  | cons h1 r1 =>
    cases r1 with
    | cons h2 r2 =>
      cases r2 with
      | cons h3 r3 =>
        cases r3
        rw [h1.str_inv, h2.str_inv, h3.int_inv] at ha
        exact ⟨a, rfl, ha⟩
theorem evd_tok {σ : L2.St} {H : Hp} {t1 t2 t3 : TE} {x : Tok3} (h1 : Ev t1 σ H (.str (S x.1))) (h2 : Ev t2 σ H (.str (S x.2.1))) (h3 : Ev t3 σ H (.int (x.2.2 : Int))) : EvD (tTup (tCons t1 (tCons t2 (tCons t3 tNil)))) σ H (tokD x) :=
  evd_tup (eda_cons (evd_str h1) (eda_cons (evd_str h2) (eda_cons (evd_int h3) eda_nil))) (by show 3 ≤ 100000; decide)
theorem ok__string {f : Addr} {C_Store C_Record C_Rule C_Book C_Job C_StoreReader : Addr} {fd : FuncData} (F : Fun K "_string" "_string" s__string f fd) (T : Tx mg) (G : Gx K mg) (TC_Store : Tc_Store K C_Store) (TC_Record : Tc_Record K C_Record) (TC_Rule : Tc_Rule K C_Rule) (TC_Book : Tc_Book K C_Book) (TC_Job : Tc_Job K C_Job) (TC_StoreReader : Tc_StoreReader K C_StoreReader) (C__string_part : Kn.ClX P w K mg base 3 "_string_part" (sp__string_part G)) (Z_InvalidRecipe : Kn.Xk P w K mg base 1 "InvalidRecipe" G.c_InvalidRecipe (sp_I4 K)) : FnOk P w K mg base (L2.CX P w) 4 f fd ["path", "number", "line", "start"] (sp__string G) := by
  refine F.okX sc__string (fun vs H Q E h => ?_) (fun cdv A outer s H vs Q E hr h => ?_)
  · obtain ⟨path, l, num, a, rfl, _⟩ := h
    rfl
  · obtain ⟨path, l, num, a, rfl, ⟨hp, hl, hn, ha⟩, hal, q, qe⟩ := h
    refine ⟨_, (pss_cons (ps_set (i := 4) sc__string.nd rfl (Or.inl rfl) (pe_lst pa_nil))
      (pss_cons (ps_set (i := 5) sc__string.nd rfl (Or.inl rfl) (pe_op op_add (pv 3) pe_int))
      (pss_cons (ps_while (passes_of rfl) (PW.pt (pw_and (pt_cmpR op_lt (pv 5) (pe_callB Kn.cr_lenStr (by rfl) T.b_len PySem.boot_len (pa_cons (pv 2) pa_nil)) (nomark _)) (pw_and1 (pt_cmpR op_ne (pe_ix ix_str (pv 2) (pv 5) (fun _ _ => rfl)) (C8.pe_gc (by rfl) T.c_QUOTE) (nomark _))))) (pss_cons (ps_asg (Kn.pe_clX C__string_part hr (by decide) (by rfl) (takes_of rfl rfl rfl rfl) (pa_cons (pv 0) (pa_cons (pv 1) (pa_cons (pv 2) (pa_cons (pv 5) pa_nil))))) (pg_tup rfl (pgs_cons (pg_name (i := 6) sc__string.nd rfl (Or.inl rfl)) (pgs_cons (pg_name (i := 5) sc__string.nd rfl (Or.inl rfl)) pgs_nil))))
      (pss_one (ps_expr (pe_bm PySem.F.plainAttrs_list PySem.F.slot_list_append PySem.F.type_list_append mt_append (pv 4) (pa_cons (pv 6) pa_nil))))))
      (pss_cons (ps_if (pt_cmpR op_ge (pv 5) (pe_callB Kn.cr_lenStr (by rfl) T.b_len PySem.boot_len (pa_cons (pv 2) pa_nil)) (nomark _)) (pss_one (Kn.ps_xk Z_InvalidRecipe hr (by decide) rfl (takes_of rfl rfl rfl rfl) (by rfl) (pa_cons (pv 0) (pa_cons (pv 1) (pa_cons (pe_op op_add (pv 3) pe_int) (pa_cons pe_str pa_nil)))))) pss_nil)
      (pss_one (ps_ret (pe_tup (pa_cons (Kn.pe_joinN (pe_join pe_str (pv 4))) (pa_cons (pe_op op_add (pv 5) pe_int) pa_nil))))))))), ?_⟩
    refine q_asgL (el_lst ea_nil (by decide)) fun p H1 np e1 hp1 => ?_
    refine q_asg (v := .int ((a + 1 : Nat) : Int)) (ev_addN (m := 1) (ev_var rfl) rfl) fun H2 e2 => ?_
    generalize hR : strG (l.drop (a + 1)) (a + 1) a [] = R at q qe
    refine q_while (fun m σ' H' => ∃ (b : Nat) (ps : List (List Nat)) (y : Option V), m = l.length + 2 - b ∧ σ' = [some (.str (S path)), some (.int (num : Int)), some (.str (S l)), some (.int (a : Int)), some (.ref p), some (.int (b : Int)), y] ∧ Ex H H' ∧ H' p = some (.lst (ps.map fun t => V.str (S t))) ∧ b ≤ l.length + 1 ∧ ps.length ≤ b ∧ (ps.map (·.length)).sum ≤ b ∧ strG (l.drop b) b a ps.flatten = R) (l.length + 2 - (a + 1)) ⟨a + 1, [], _, rfl, rfl, e1.trans e2, e2 _ _ hp1, by omega, by show 0 ≤ _; omega, by show 0 ≤ _; omega, hR⟩ ?_
    rintro m σ' H3 ⟨b, ps, y, rfl, rfl, e3, hp3, hb1, hps, hsum, hR3⟩
    refine ⟨decide ((b : Int) < (l.length : Int)) && !decide (l[b]? = some 34), et_and (et_test (ev_op (ev_var rfl) (ev_cb (ea_cons (ev_var rfl) ea_nil) (rc_lenS (by omega))) rv_lt)) fun h => ?_, fun h H4 e4 => ?_, fun h H4 e4 => ?_⟩
    · have hlt : b < l.length := by
        have := of_decide_eq_true h
        omega
      have e := List.getElem?_eq_getElem hlt
      rw [e]
      exact et_is (et_test (ev_op (ev_idxS (ev_var rfl) (ev_var rfl) (by omega) (atI_nat e)) (ev_cS (l := [34]) rfl) rv_neS)) (by simp)
    · rw [Bool.and_eq_true, decide_eq_true_eq, Bool.not_eq_true', decide_eq_false_iff_not] at h
      obtain ⟨hlt, hq⟩ := h
      have hlt : b < l.length := by omega
      refine ⟨fun σ' H' => ∃ (b2 : Nat) (t : List Nat), b < b2 ∧ b2 ≤ b + 2 ∧ t.length ≤ 1 ∧ σ' = [some (.str (S path)), some (.int (num : Int)), some (.str (S l)), some (.int (a : Int)), some (.ref p), some (.int (b2 : Int)), some (.str (S t))] ∧ Ex H H' ∧ H' p = some (.lst ((ps ++ [t]).map fun t => V.str (S t))) ∧ strG (l.drop b2) b2 a (ps ++ [t]).flatten = R, ?_, ?_⟩
      · rintro σ2 H5 ⟨b2, t, z1, z2, z3, z4, z5, z6, z7⟩
        refine ⟨l.length + 2 - b2, by omega, b2, ps ++ [t], _, rfl, z4, z5, z6, by omega, ?_, ?_, z7⟩
        · rw [List.length_append, List.length_singleton]
          omega
        · rw [sum_app]
          omega
      · refine q_asgS (ea_cons (ev_var rfl) (ea_cons (ev_var rfl) (ea_cons (ev_var rfl) (ea_cons (ev_var rfl) ea_nil)))) fun H5 e5 => ?_
        have e35 := (e3.trans e4).trans e5
        refine ⟨path, l, num, b, rfl, ⟨hp, hl, hn, by omega⟩, hlt, fun x hx v H6 e6 hv => ?_, fun c why hx d H' e hd => qe c why ?_ d H' (e35.trans e) hd⟩
        · obtain ⟨t, b2⟩ := x
          obtain ⟨h1, h2, h3⟩ := str_part (q := a) (acc := ps.flatten) hlt hq hx
          obtain ⟨ar, rfl, har⟩ := pairD_inv hv
          refine unp2 har ?_
          refine s_app (xs := ps.map fun t => V.str (S t)) (e6 _ _ (e5 _ _ (e4 _ _ hp3))) (ev_var rfl) (ev_var rfl) (by rw [List.length_map]; omega) fun H7 e7 => ⟨b2, t, h2, h3, part_len hx, rfl, Ex.mut ((e35.trans e6).trans e7) np, ?_, ?_⟩
          · rw [List.map_append]
            exact upd_same
          · rw [← hR3, h1, List.flatten_append]
            simp
        · rw [← hR3]
          exact str_err hlt hq hx
    · refine q_when (b := decide ((l.length : Int) ≤ (b : Int))) (et_test (ev_op (ev_var rfl) (ev_cb (ea_cons (ev_var rfl) ea_nil) (rc_lenS (by omega))) rv_ge)) (fun hb H5 e5 => ?_) fun hb H5 e5 => ?_
      · have hge : l.length ≤ b := by
          have := of_decide_eq_true hb
          omega
        have hR4 : R = .inr (a + 1, unt) := by
          rw [← hR3, List.drop_of_length_le hge, strG_nil]
        exact raise4 (W := fun cls d _ H => E cls d H) (n := num) (c := a + 1) G.x_InvalidRecipe.oe (nf4 G) ⟨hp, by decide +kernel, hn, by omega⟩ (ev_var rfl) (ev_var rfl) (ev_addN (m := 1) (ev_var rfl) rfl) (ev_cS (l := unt) rfl) fun d2 H' e hd2 => qe _ _ hR4 d2 H' (((e3.trans e4).trans e5).trans e) hd2
      · have hlt : b < l.length := by
          have := of_decide_eq_false hb
          omega
        have h34 : l[b]? = some 34 := by
          rw [decide_eq_true (show (b : Int) < (l.length : Int) by omega), Bool.true_and, Bool.not_eq_false', decide_eq_true_eq] at h
          exact h
        have hR4 : R = .inl (ps.flatten, b + 1) := by
          rw [← hR3, drop_get h34, strG_cons, if_pos rfl]
        refine s_retD (evd_pair (ev_is (ev_joinV (s := []) (ys := ps) (ev_cS (l := []) rfl) (ev_var rfl) (sq_of (e5 _ _ (e4 _ _ hp3))) (by rw [List.length_nil, Nat.mul_zero]; omega)) (by rw [Kn.join_nil])) (ev_addN (m := 1) (ev_var rfl) rfl)) ((q _ hR4).mono ((e3.trans e4).trans e5))
def tokD3 (x : Tok3) : PyData := tokD x
def sp__token (G : Gx K mg) : Sp := fun vs H Q E => ∃ (path l : List Nat) (num a : Nat), vs = [.str (S path), .int (num : Int), .str (S l), .int (a : Int)] ∧ ScA path l num a ∧ a < l.length ∧ Rd_ tokD H Q E G.c_InvalidRecipe path num (tokG l a)
theorem tw_step {p : Nat → Bool} {l : List Nat} {a b c : Nat} (h : l[b]? = some c) (hp : p c = true) (hab : a ≤ b) (hw : (l.drop a).takeWhile p = (l.drop a).take (b - a) ++ (l.drop b).takeWhile p) : (l.drop a).takeWhile p = (l.drop a).take (b + 1 - a) ++ (l.drop (b + 1)).takeWhile p := by
  rw [hw, drop_get h, List.takeWhile_cons, hp]
  have e : (l.drop a).take (b + 1 - a) = (l.drop a).take (b - a) ++ [c] := by
    rw [show b + 1 - a = (b - a) + 1 by omega, List.take_add_one, List.getElem?_drop, show a + (b - a) = b by omega, h]
    rfl
  rw [e]
  simp
theorem ok__token {f : Addr} {C_Store C_Record C_Rule C_Book C_Job C_StoreReader : Addr} {fd : FuncData} (F : Fun K "_token" "_token" s__token f fd) (T : Tx mg) (G : Gx K mg) (TC_Store : Tc_Store K C_Store) (TC_Record : Tc_Record K C_Record) (TC_Rule : Tc_Rule K C_Rule) (TC_Book : Tc_Book K C_Book) (TC_Job : Tc_Job K C_Job) (TC_StoreReader : Tc_StoreReader K C_StoreReader) (C__string : Kn.ClX P w K mg base 4 "_string" (sp__string G)) : FnOk P w K mg base (L2.CX P w) 5 f fd ["path", "number", "line", "start"] (sp__token G) := by
  refine F.okX sc__token (fun vs H Q E h => ?_) (fun cdv A outer s H vs Q E hr h => ?_)
  · obtain ⟨path, l, num, a, rfl, _⟩ := h
    rfl
  · obtain ⟨path, l, num, a, rfl, ⟨hp, hl, hn, ha⟩, hal, q, qe⟩ := h
    refine ⟨_, (pss_cons (ps_if (pt_cmpR op_eq (pe_ix ix_str (pv 2) (pv 3) (fun _ _ => rfl)) (C8.pe_gc (by rfl) T.c_QUOTE) (nomark _)) (pss_cons (ps_asg (Kn.pe_clX C__string hr (by decide) (by rfl) (takes_of rfl rfl rfl rfl) (pa_cons (pv 0) (pa_cons (pv 1) (pa_cons (pv 2) (pa_cons (pv 3) pa_nil))))) (pg_tup rfl (pgs_cons (pg_name (i := 4) sc__token.nd rfl (Or.inl rfl)) (pgs_cons (pg_name (i := 5) sc__token.nd rfl (Or.inl rfl)) pgs_nil))))
      (pss_one (ps_ret (pe_tup (pa_cons pe_str (pa_cons (pv 4) (pa_cons (pv 5) pa_nil))))))) pss_nil)
      (pss_cons (ps_if (pt_cmpR op_inS (pe_ix ix_str (pv 2) (pv 3) (fun _ _ => rfl)) (C8.pe_gc (by rfl) T.c_SIGNS) rfl) (pss_one (ps_ret (pe_tup (pa_cons pe_str (pa_cons (pe_ix ix_str (pv 2) (pv 3) (fun _ _ => rfl)) (pa_cons (pe_op op_add (pv 3) pe_int) pa_nil)))))) pss_nil)
      (pss_cons (ps_set (i := 5) sc__token.nd rfl (Or.inl rfl) (pv 3))
      (pss_cons (ps_while (passes_of rfl) (PW.pt (pw_and (pt_cmpR op_lt (pv 5) (pe_callB Kn.cr_lenStr (by rfl) T.b_len PySem.boot_len (pa_cons (pv 2) pa_nil)) (nomark _)) (pw_and1 (pt_cmpR op_notInS (pe_ix ix_str (pv 2) (pv 5) (fun _ _ => rfl)) (C8.pe_gc (by rfl) T.c_WORD_ENDS) rfl)))) (pss_one (ps_aug (i := 5) sc__token.nd rfl (Or.inl rfl) pe_int ip_add)))
      (pss_one (ps_ret (pe_tup (pa_cons pe_str (pa_cons (pe_slice sl_str (pv 2) (po_some (pv 3)) (po_some (pv 5))) (pa_cons (pv 5) pa_nil)))))))))), ?_⟩
    have eg := List.getElem?_eq_getElem hal
    generalize l[a] = c at eg
    have hd := drop_get eg
    refine q_when (b := decide (c = 34)) (et_test (ev_is (ev_op (ev_idxS (ev_var rfl) (ev_var rfl) (by omega) (atI_nat eg)) (ev_cS (l := [34]) rfl) rv_eqS) (by simp))) (fun hb H1 e1 => ?_) fun hb H1 e1 => ?_
    · have hc := of_decide_eq_true hb
      refine q_asgS (ea_cons (ev_var rfl) (ea_cons (ev_var rfl) (ea_cons (ev_var rfl) (ea_cons (ev_var rfl) ea_nil)))) fun H2 e2 => ?_
      refine ⟨path, l, num, a, rfl, ⟨hp, hl, hn, ha⟩, hal, fun x hx v H3 e3 hv => ?_, fun c2 why hx d H' e hd2 => qe c2 why ?_ d H' ((e1.trans e2).trans e) hd2⟩
      · obtain ⟨t, b2⟩ := x
        obtain ⟨ar, rfl, har⟩ := pairD_inv hv
        refine unp2 har ?_
        have hr2 : tokG l a = .inl (kStr, t, b2) := by unfold tokG; rw [hd]; dsimp only; rw [if_pos hc, hx]
        exact s_retD (evd_tok (x := (kStr, t, b2)) (ev_cS rfl) (ev_var rfl) (ev_var rfl)) ((q _ hr2).mono ((e1.trans e2).trans e3))
      · unfold tokG
        rw [hd]
        dsimp only
        rw [if_pos hc, hx]
    have hc := of_decide_eq_false hb
    refine q_when (b := decide (c ∈ SGN)) (et_test (ev_op (ev_idxS (ev_var rfl) (ev_var rfl) (by omega) (atI_nat eg)) (ev_cS (l := SGN) rfl) rv_inS)) (fun hb2 H2 e2 => ?_) fun hb2 H2 e2 => ?_
    · have hr2 : tokG l a = .inl (kSig, [c], a + 1) := by unfold tokG; rw [hd]; dsimp only; rw [if_neg hc, if_pos (of_decide_eq_true hb2)]
      exact s_retD (evd_tok (x := (kSig, [c], a + 1)) (ev_cS rfl) (ev_idxS (ev_var rfl) (ev_var rfl) (by omega) (atI_nat eg)) (ev_addN (m := 1) (ev_var rfl) rfl)) ((q _ hr2).mono (e1.trans e2))
    have hc2 := of_decide_eq_false hb2
    have hr2 : tokG l a = .inl (kWrd, wordG l a, a + (wordG l a).length) := by unfold tokG; rw [hd]; dsimp only; rw [if_neg hc, if_neg hc2]
    replace q := q _ hr2
    refine q_asg (ev_var rfl) fun H3 e3 => ?_
    refine q_while (fun m σ' H' => ∃ (b : Nat), m = l.length - b ∧ σ' = [some (.str (S path)), some (.int (num : Int)), some (.str (S l)), some (.int (a : Int)), none, some (.int (b : Int))] ∧ Ex H H' ∧ a ≤ b ∧ b ≤ l.length ∧ wordG l a = (l.drop a).take (b - a) ++ (l.drop b).takeWhile fun c => !decide (c ∈ WEN)) (l.length - a) ⟨a, rfl, rfl, (e1.trans e2).trans e3, Nat.le_refl _, by omega, by rw [Nat.sub_self, List.take_zero]; rfl⟩ ?_
    rintro m σ' H4 ⟨b, rfl, rfl, e4, hab, hbl, hw⟩
    refine ⟨decide ((b : Int) < (l.length : Int)) && !decide ((l[b]?.getD 0) ∈ WEN), et_and (et_test (ev_op (ev_var rfl) (ev_cb (ea_cons (ev_var rfl) ea_nil) (rc_lenS (by omega))) rv_lt)) fun h => ?_, fun h H5 e5 => ?_, fun h H5 e5 => ?_⟩
    · have hlt : b < l.length := by
        have := of_decide_eq_true h
        omega
      have e := List.getElem?_eq_getElem hlt
      rw [e]
      exact et_test (ev_op (ev_idxS (ev_var rfl) (ev_var rfl) (by omega) (atI_nat e)) (ev_cS (l := WEN) rfl) rv_ninS)
    · rw [Bool.and_eq_true, decide_eq_true_eq] at h
      have hlt : b < l.length := by omega
      have e := List.getElem?_eq_getElem hlt
      rw [e] at h
      refine ⟨fun σ' H' => σ' = [some (.str (S path)), some (.int (num : Int)), some (.str (S l)), some (.int (a : Int)), none, some (.int ((b : Int) + 1))] ∧ Ex H H', fun σ2 H6 ⟨z1, z2⟩ => ⟨l.length - (b + 1), by omega, b + 1, rfl, by rw [z1, Int.natCast_add]; rfl, z2, by omega, by omega, tw_step e h.2 hab hw⟩, ?_⟩
      exact s_aug (a := (b : Int)) (b := 1) rfl ev_c fun H6 e6 => ⟨rfl, (e4.trans e5).trans e6⟩
    · have hw2 : wordG l a = (l.drop a).take (b - a) := by
        rw [hw]
        by_cases hlt : b < l.length
        · have e := List.getElem?_eq_getElem hlt
          rw [decide_eq_true (show (b : Int) < (l.length : Int) by omega), e] at h
          rw [drop_get e, List.takeWhile_cons, show (!decide (l[b] ∈ WEN)) = false from h]
          simp
        · rw [List.drop_of_length_le (show l.length ≤ b by omega)]
          simp
      have hlen : a + (wordG l a).length = b := by
        rw [hw2, List.length_take, List.length_drop]
        omega
      refine s_retD (evd_tok (x := (kWrd, wordG l a, a + (wordG l a).length)) (ev_cS rfl) (ev_is (ev_slS (ev_var rfl) (eo_some (ev_var rfl)) (eo_some (ev_var rfl)) (by omega)) (by rw [cutS_nat, hw2])) (ev_is (ev_var rfl) (by rw [hlen]))) (q.mono (e4.trans e5))
end

section
variable {P : Program} {w : World} {K : PySem.W.Frag} {mg : Str → Option Value} {base : Heap}
def toksD (x : List Tok3) : PyData := .list (x.map tokD)
def sp_scan_line (G : Gx K mg) : Sp := fun vs H Q E => ∃ (path l : List Nat) (num : Nat), vs = [.str (S path), .int (num : Int), .str (S l)] ∧ ScA path l num 0 ∧ Rd_ toksD H Q E G.c_InvalidRecipe path num (scan l)
theorem strG_ge : ∀ (n : Nat) (r : List Nat) (b q : Nat) (acc : List Nat) (t : List Nat) (e : Nat), r.length ≤ n → strG r b q acc = .inl (t, e) → b < e ∧ e ≤ b + r.length
  | 0, [], _, _, _, _, _, _, h => by rw [strG_nil] at h; cases h
  | n + 1, [], _, _, _, _, _, _, h => by rw [strG_nil] at h; cases h
  | n + 1, c :: r, b, q, acc, t, e, hn, h => by
    rw [List.length_cons] at hn ⊢
    rw [strG_cons] at h
    split at h
    · cases h
      omega
    · split at h
      · cases r with
        | nil => cases h
        | cons d r' =>
          dsimp only at h
          cases he : escOf d with
          | none => rw [he] at h; cases h
          | some x =>
            rw [he] at h
            rw [List.length_cons] at hn ⊢
            have := strG_ge n r' (b + 2) q _ t e (by omega) h
            omega
      · have := strG_ge n r (b + 1) q _ t e (by omega) h
        omega
theorem tok_ge {l : List Nat} {a : Nat} (ha : a < l.length) (hs : l[a]? ≠ some 32) {x : Tok3} (h : tokG l a = .inl x) : a < x.2.2 ∧ x.2.2 ≤ l.length := by
  have eg := List.getElem?_eq_getElem ha
  generalize l[a] = c at eg
  have hd := drop_get eg
  have hdl : (l.drop (a + 1)).length = l.length - (a + 1) := List.length_drop
  unfold tokG at h
  rw [hd] at h
  dsimp only at h
  split at h
  · split at h
    · next t b hr =>
      cases h
      have := strG_ge _ _ _ _ _ _ _ (Nat.le_refl _) hr
      rw [hdl] at this
      show a < b ∧ b ≤ l.length
      omega
    · cases h
  · next hc =>
    split at h
    · cases h
      show a < a + 1 ∧ a + 1 ≤ l.length
      omega
    · next hc2 =>
      cases h
      have h1 : (wordG l a).length ≤ l.length - a := by
        have := (List.takeWhile_sublist (fun c => !decide (c ∈ WEN)) (l := l.drop a)).length_le
        rw [List.length_drop] at this
        exact this
      have h2 : 0 < (wordG l a).length := by
        unfold wordG
        rw [hd, List.takeWhile_cons]
        have hw : c ∉ WEN := fun z => by
          have hcase : ∀ c ∈ WEN, c = 32 ∨ c = 34 ∨ c ∈ SGN := by decide +kernel
          rcases hcase c z with y | y | y
          · exact hs (by rw [eg, y])
          · exact hc y
          · exact hc2 y
        rw [decide_eq_false hw]
        simp
      show a < a + (wordG l a).length ∧ _
      constructor
      · omega
      · show a + (wordG l a).length ≤ l.length
        omega
theorem skip_le (l : List Nat) {a : Nat} (h : a ≤ l.length) : skip l a ≤ l.length := by
  unfold skip
  have := (List.takeWhile_sublist (fun c => decide (c = 32)) (l := l.drop a)).length_le
  rw [List.length_drop] at this
  omega
theorem skip_ns (l : List Nat) (a : Nat) : l[skip l a]? ≠ some 32 := by
  unfold skip
  intro h
  have e : l[a + ((l.drop a).takeWhile fun c => decide (c = 32)).length]? = (l.drop a)[((l.drop a).takeWhile fun c => decide (c = 32)).length]? := by rw [List.getElem?_drop]
  rw [e] at h
  generalize l.drop a = r at h
  induction r with
  | nil => simp at h
  | cons c r ih =>
    rw [List.takeWhile_cons] at h
    by_cases hc : c = 32
    · rw [decide_eq_true hc] at h
      exact ih (by simpa using h)
    · rw [decide_eq_false hc] at h
      simp at h
      exact hc h
theorem scan_enough {l : List Nat} : ∀ (n m a : Nat) (acc : List Tok3), l[a]? ≠ some 32 → l.length - a ≤ n → l.length - a ≤ m → scanG l n a acc = scanG l m a acc
  | 0, 0, _, _, _, _, _ => rfl
  | 0, m + 1, a, acc, _, h1, _ => by
    unfold scanG
    rw [if_neg (by omega)]
  | n + 1, 0, a, acc, _, _, h2 => by
    conv => lhs; unfold scanG
    conv => rhs; unfold scanG
    rw [if_neg (by omega)]
  | n + 1, m + 1, a, acc, hs, h1, h2 => by
    conv => lhs; unfold scanG
    conv => rhs; unfold scanG
    by_cases ha : a < l.length
    · rw [if_pos ha, if_pos ha]
      cases ht : tokG l a with
      | inr e => rfl
      | inl x =>
        obtain ⟨k, t, b⟩ := x
        have := tok_ge ha hs ht
        have hg := skip_ge l b
        exact scan_enough n m (skip l b) _ (skip_ns l b) (by dsimp only at this; omega) (by dsimp only at this; omega)
    · rw [if_neg ha, if_neg ha]
theorem ok_scan_line {f : Addr} {C_Store C_Record C_Rule C_Book C_Job C_StoreReader : Addr} {fd : FuncData} (F : Fun K "scan_line" "scan_line" s_scan_line f fd) (T : Tx mg) (G : Gx K mg) (TC_Store : Tc_Store K C_Store) (TC_Record : Tc_Record K C_Record) (TC_Rule : Tc_Rule K C_Rule) (TC_Book : Tc_Book K C_Book) (TC_Job : Tc_Job K C_Job) (TC_StoreReader : Tc_StoreReader K C_StoreReader) (C__skip_spaces : Kn.Cl P w K mg base 1 "_skip_spaces" (sp__skip_spaces K)) (C__token : Kn.ClX P w K mg base 5 "_token" (sp__token G)) : FnOk P w K mg base (L2.CX P w) 6 f fd ["path", "number", "line"] (sp_scan_line G) := by
  refine F.okX sc_scan_line (fun vs H Q E h => ?_) (fun cdv A outer s H vs Q E hr h => ?_)
  · obtain ⟨path, l, num, rfl, _⟩ := h
    rfl
  · obtain ⟨path, l, num, rfl, ⟨hp, hl, hn, _⟩, q, qe⟩ := h
    refine ⟨_, (pss_cons (ps_if (pt_val (pe_m1 PySem.F.slot_str_startswith PySem.F.type_str_startswith Kn.mt_startswith (pe_m1 PySem.F.slot_str_lstrip PySem.F.type_str_lstrip Kn.mt_lstripC (pv 2) pe_str) pe_str)) (pss_one (ps_ret (pe_lst pa_nil))) pss_nil)
      (pss_cons (ps_set (i := 3) sc_scan_line.nd rfl (Or.inl rfl) (pe_lst pa_nil))
      (pss_cons (ps_set (i := 4) sc_scan_line.nd rfl (Or.inl rfl) (Kn.pe_cl C__skip_spaces hr (by decide) (by rfl) (pa_cons (pv 2) (pa_cons pe_int pa_nil))))
      (pss_cons (ps_while (passes_of rfl) (pt_cmpR op_lt (pv 4) (pe_callB Kn.cr_lenStr (by rfl) T.b_len PySem.boot_len (pa_cons (pv 2) pa_nil)) (nomark _)) (pss_cons (ps_asg (Kn.pe_clX C__token hr (by decide) (by rfl) (takes_of rfl rfl rfl rfl) (pa_cons (pv 0) (pa_cons (pv 1) (pa_cons (pv 2) (pa_cons (pv 4) pa_nil))))) (pg_tup rfl (pgs_cons (pg_name (i := 5) sc_scan_line.nd rfl (Or.inl rfl)) (pgs_cons (pg_name (i := 6) sc_scan_line.nd rfl (Or.inl rfl)) (pgs_cons (pg_name (i := 7) sc_scan_line.nd rfl (Or.inl rfl)) pgs_nil)))))
      (pss_cons (ps_expr (pe_bm PySem.F.plainAttrs_list PySem.F.slot_list_append PySem.F.type_list_append mt_append (pv 3) (pa_cons (pe_tup (pa_cons (pv 5) (pa_cons (pv 6) (pa_cons (pe_op op_add (pv 4) pe_int) pa_nil)))) pa_nil)))
      (pss_one (ps_set (i := 4) sc_scan_line.nd rfl (Or.inl rfl) (Kn.pe_cl C__skip_spaces hr (by decide) (by rfl) (pa_cons (pv 2) (pa_cons (pv 7) pa_nil))))))))
      (pss_one (ps_ret (pv 3))))))), ?_⟩
    refine q_when (b := isRem l) (et_B (ev_starts (c := 35) (ev_lstrip (ev_var rfl) (ev_cS (l := [32]) rfl) (by omega)) (ev_cS (l := [35]) rfl))) (fun hb H1 e1 => ?_) fun hb H1 e1 => ?_
    · have hr2 : scan l = .inl [] := by unfold scan; rw [if_pos hb]
      exact s_retD (evd_lst eda_nil (by decide)) ((q _ hr2).mono e1)
    have hsc : scan l = scanG l l.length (skip l 0) [] := by unfold scan; rw [if_neg (by rw [hb]; decide)]
    rw [hsc] at q qe
    refine q_asgL (el_lst ea_nil (by decide)) fun p H2 np e2 hp2 => ?_
    refine q_asg (v := .int ((skip l 0 : Nat) : Int)) (ev_c2 (a := l) (b := 0) (ea_cons (ev_var rfl) (ea_cons ev_c ea_nil)) fun _ _ => hl) fun H3 e3 => ?_
    generalize hR : scanG l l.length (skip l 0) [] = R at q qe
    have e13 := (e1.trans e2).trans e3
    refine q_while (fun m σ' H' => ∃ (b : Nat) (ts : List Tok3) (vs : List V) (y5 y6 y7 : Option V), m = l.length - b ∧ σ' = [some (.str (S path)), some (.int (num : Int)), some (.str (S l)), some (.ref p), some (.int (b : Int)), y5, y6, y7] ∧ Ex H H' ∧ H' p = some (.lst vs) ∧ DtA H' vs (ts.map tokD) ∧ l[b]? ≠ some 32 ∧ b ≤ l.length ∧ ts.length ≤ b ∧ scanG l (l.length - b) b ts = R) (l.length - skip l 0) ⟨skip l 0, [], [], _, _, _, rfl, rfl, e13, e3 _ _ hp2, .nil, skip_ns l 0, skip_le l (Nat.zero_le _), Nat.zero_le _, by rw [← hR]; exact scan_enough _ _ _ _ (skip_ns l 0) (Nat.le_refl _) (by omega)⟩ ?_
    rintro m σ' H4 ⟨b, ts, vs, y5, y6, y7, rfl, rfl, e4, hp4, hD, hns, hb1, hts, hR4⟩
    refine ⟨decide ((b : Int) < (l.length : Int)), et_test (ev_op (ev_var rfl) (ev_cb (ea_cons (ev_var rfl) ea_nil) (rc_lenS (by omega))) rv_lt), fun h H5 e5 => ?_, fun h H5 e5 => ?_⟩
    · have hlt : b < l.length := by
        have := of_decide_eq_true h
        omega
      have hstep : scanG l (l.length - b) b ts = (match tokG l b with
          | .inl (k, t, b2) => scanG l (l.length - b - 1) (skip l b2) (ts ++ [(k, t, b + 1)])
          | .inr e => .inr e) := by
        rw [show l.length - b = (l.length - b - 1) + 1 by omega]
        conv => lhs; unfold scanG
        rw [if_pos hlt]
        rfl
      refine ⟨fun σ' H' => ∃ (b2 : Nat) (x : Tok3) (vs : List V) (y5 y6 y7 : Option V), b < b2 ∧ σ' = [some (.str (S path)), some (.int (num : Int)), some (.str (S l)), some (.ref p), some (.int (b2 : Int)), y5, y6, y7] ∧ Ex H H' ∧ H' p = some (.lst vs) ∧ DtA H' vs ((ts ++ [x]).map tokD) ∧ l[b2]? ≠ some 32 ∧ b2 ≤ l.length ∧ scanG l (l.length - b2) b2 (ts ++ [x]) = R, ?_, ?_⟩
      · rintro σ2 H6 ⟨b2, x, vs2, z5, z6, z7, g1, g2, g3, g4, g5, g6, g7, g8⟩
        exact ⟨l.length - b2, by omega, b2, ts ++ [x], vs2, z5, z6, z7, rfl, g2, g3, g4, g5, g6, g7, by rw [List.length_append, List.length_singleton]; omega, g8⟩
      · refine q_asgS (ea_cons (ev_var rfl) (ea_cons (ev_var rfl) (ea_cons (ev_var rfl) (ea_cons (ev_var rfl) ea_nil)))) fun H6 e6 => ?_
        have e46 := (e4.trans e5).trans e6
        refine ⟨path, l, num, b, rfl, ⟨hp, hl, hn, by omega⟩, hlt, fun x hx v H7 e7 hv => ?_, fun c why hx d H' e hd => qe c why ?_ d H' (e46.trans e) hd⟩
        · obtain ⟨k, t, b2⟩ := x
          obtain ⟨ar, rfl, har⟩ := tokD_inv hv
          have hge := tok_ge hlt hns hx
          dsimp only at hge
          refine unp3 har ?_
          have hp7 := e7 _ _ (e6 _ _ (e5 _ _ hp4))
          have hD7 := ((hD.mono e5).mono e6).mono e7
          have hvl : vs.length = ts.length := by
            have := hD.len
            rw [List.length_map] at this
            exact this
          refine q_appD (d := tokD (k, t, b + 1)) hp7 (ev_var rfl) (evd_tok (x := (k, t, b + 1)) (ev_var rfl) (ev_var rfl) (ev_addN (m := 1) (ev_var rfl) rfl)) (by omega) fun v8 H8 e8 hv8 => ?_
          have eF := Ex.mut (o := .lst (vs ++ [v8])) ((e46.trans e7).trans e8) (fresh_back e1 np)
          have hD9 := dta_app (e8 _ _ hp7) (hD7.mono e8) hv8 (noLA_map (fun _ => rfl) ts) rfl
          refine s_asg (v := .int ((skip l b2 : Nat) : Int)) (ev_c2 (a := l) (b := b2) (ea_cons (ev_var rfl) (ea_cons (ev_var rfl) ea_nil)) fun _ _ => hl) fun H9 e9 => ⟨skip l b2, (k, t, b + 1), vs ++ [v8], _, _, _, ?_, rfl, eF.trans e9, e9 _ _ upd_same, ?_, skip_ns l b2, skip_le l hge.2, ?_⟩
          · have := skip_ge l b2
            omega
          · rw [List.map_append]
            exact hD9.mono e9
          · rw [← hR4, hstep, hx]
            dsimp only
            exact scan_enough _ _ _ _ (skip_ns l b2) (Nat.le_refl _) (by have := skip_ge l b2; omega)
        · rw [← hR4, hstep, hx]
    · have hge : ¬ b < l.length := by
        have := of_decide_eq_false h
        omega
      have hR5 : R = .inl ts := by
        rw [← hR4, show l.length - b = 0 by omega]
        rfl
      exact s_retD (evd_of (ev_var rfl) (.lst (e5 _ _ hp4) (hD.mono e5))) ((q _ hR5).mono (e4.trans e5))
end

--SPLIT
section
variable {prog : Program} {w : World} {A : Around} {E : Value → Shared → Prop} {s : Shared}
theorem replaceNo {x y z : Str} {t u v : Tok} {Q : Value → Shared → Prop} (hn : (Builtin.Str.occurrences x y 0 x.length (x.length + 1)).isEmpty = true) (hq : Q (.str x t) s) : wpAny (model prog w) A (call (.builtin "str.replace") [.str x t, .str y u, .str z v]) Q E s := by
  have hc : ((Builtin.Str.occurrences x y 0 x.length (x.length + 1)).isEmpty || (y.length == 0 && z.length == 0)) = true := by rw [hn]; rfl
  refine call_gives F.slot_str_replace (typeIs_str _ _ _) F.entry_str_replace (F.args_str_replace_3 _ _ _) (gives_str_replace x y z t u v fun h => absurd (hc.symm.trans h) (by decide)) ?_
  rw [if_pos hc]
  exact hq
end
def tReplNo (to tz : TE) (y : Str) : TE := fun σ H Q => to σ H fun v H1 => ∃ x : Str, v = .str x ∧ tz σ H1 fun u H2 => ∃ z : Str, u = .str z ∧ (Builtin.Str.occurrences x y 0 x.length (x.length + 1)).isEmpty = true ∧ Q (.str x) H2
section
variable {X : Cx} {o e2 : Expr} {to tz : TE} {y : Str} {j : Nat} {c0 apos pos : Pos}
/-- e.replace(y, f), where y does not occur -/
theorem pe_replNo (ho : PE X o to) (hz : PE X e2 tz) (hst : starEach [.Constant (.str y) j c0, e2] X.env = [(false, eval (.Constant (.str y) j c0) X.env), (false, eval e2 X.env)] := by rfl)
    (hbase : attributeBase o "replace" X.env (eval o X.env) = eval o X.env := by rfl) (hline : (apos.endLine == pos.line) = true := by rfl) :
    PE X (.Call (.Attribute o "replace" apos) [.Constant (.str y) j c0, e2] [] pos) (tReplNo to tz y) := by
  refine ⟨fun pins s σ H Q I h => ?_⟩
  refine PySem.Call_method2 hbase hst hline (thn (ho.run pins s σ H _ I h) fun v s1 ⟨v', H1, I1, r1, x, e1, h2⟩ => ?_)
  subst e1
  obtain ⟨tx, e3⟩ := r1
  subst e3
  refine ⟨"str", _, PySem.F.plainAttrs_str, PySem.F.slot_str_replace, PySem.F.type_str_replace, typeIs_str _ _ _, (fun _ e => nomatch e), Calls.callWith_builtin rfl (Calls.evalArgs_plain (Calls.spliced_cons ?_))⟩
  refine Calls.Constant_str (Calls.spliced_cons (thn (hz.run pins _ σ H1 _ (I1.tok _) h2) fun u s2 ⟨w', H2, I2, r2, z, e4, hn, q⟩ => ?_))
  subst e4
  obtain ⟨tz, e5⟩ := r2
  subst e5
  exact Calls.spliced_nil (replaceNo hn ⟨.str x, H2, I2, ⟨tx, rfl⟩, q⟩)
end
section
variable {P : Program} {w : World} {K : PySem.W.Frag} {mg : Str → Option Value} {base : Heap}
/-! ### the two rules of the law -/
def lit (x : Str) : List Nat := x.cps.toList
def rOut (i : Nat) : List (List Nat) := if i = 0 then [[97]] else [[99], [100]]
def rInp (i : Nat) : List (List Nat) := if i = 0 then [[98]] else []
def rSl (i : Nat) : Bool := if i = 0 then false else true
def BdO (H : Hp) (c : Addr) (i : Nat) : Prop := if i = 0 then H c = some (.tup []) else ∃ t, H c = some (.tup [.ref t]) ∧ H t = some (.tup [.str (S (lit "fail"))])
theorem BdO.mono {H H1 : Hp} {c : Addr} {i : Nat} (h : BdO H c i) (e : Ex H H1) : BdO H1 c i := by
  unfold BdO at *
  split
  · rename_i hi
    rw [if_pos hi] at h
    exact e _ _ h
  · rename_i hi
    rw [if_neg hi] at h
    obtain ⟨t, h1, h2⟩ := h
    exact ⟨t, e _ _ h1, e _ _ h2⟩
def fldU (a b c : Addr) (s : Bool) : List (Str × V) := putF "body" (.ref c) (putF "sealed" (.bl s) (putF "inputs" (.ref b) (putF "outputs" (.ref a) [])))
structure RuO (C : Addr) (H : Hp) (p : Addr) (i : Nat) : Prop where
  ex : ∃ dx a b c, H p = some (.ins C dx (fldU a b c (rSl i))) ∧ H a = some (.tup (strsV (rOut i))) ∧ H b = some (.tup (strsV (rInp i))) ∧ BdO H c i
theorem RuO.mono {C : Addr} {H H1 : Hp} {p : Addr} {i : Nat} (h : RuO C H p i) (e : Ex H H1) : RuO C H1 p i := by
  obtain ⟨dx, a, b, c, h1, h2, h3, h4⟩ := h.ex
  exact ⟨dx, a, b, c, e _ _ h1, e _ _ h2, e _ _ h3, h4.mono e⟩
def sp__first_line (_ : PySem.W.Frag) : Sp := fun vs H Q _ => ∃ t : Addr, vs = [.ref t] ∧ H t = some (.tup [.str (S (lit "fail"))]) ∧ Rt H (.str (S (lit "fail"))) Q
theorem ok__first_line {f : Addr} {C_Store C_Record C_Rule C_Book C_Job C_StoreReader : Addr} {fd : FuncData} (F : Fun K "_first_line" "_first_line" s__first_line f fd) (T : Tx mg) (G : Gx K mg) (TC_Store : Tc_Store K C_Store) (TC_Record : Tc_Record K C_Record) (TC_Rule : Tc_Rule K C_Rule) (TC_Book : Tc_Book K C_Book) (TC_Job : Tc_Job K C_Job) (TC_StoreReader : Tc_StoreReader K C_StoreReader)  : FnOk P w K mg base CX0 1 f fd ["statement"] (sp__first_line K) := by
  refine F.ok sc__first_line (fun vs H Q E h => ?_) (fun cdv A outer s H vs Q E hr h => ?_)
  · obtain ⟨t, rfl, _⟩ := h
    rfl
  · obtain ⟨t, rfl, ht, q⟩ := h
    refine ⟨_, (pss_cons (ps_set (i := 1) sc__first_line.nd rfl (Or.inl rfl) (pe_ix ix_tup (pv 0) pe_int (fun _ _ => rfl))) (pss_cons (ps_if (pt_cmpR op_eq (pv 1) pe_str (nomark _)) (pss_one (ps_ret (pv 1))) pss_nil) Kw.pss_never)), ?_⟩
    refine q_asg (v := .str (S (lit "fail"))) (ev_op (ev_var rfl) ev_c (rv_ixT (st_of ht) (atI_nat (j := 0) rfl))) fun H1 e1 => ?_
    exact q_when (b := true) (et_is (et_test (ev_op (ev_var rfl) (ev_cS (l := lit "fail") rfl) rv_eqS)) (decide_eq_true rfl)) (fun _ H2 e2 => s_ret (ev_var rfl) fun H3 e3 => q H3 ((e1.trans e2).trans e3)) (fun z => nomatch z)
theorem fail_ne : lit "fail" ≠ lit "each" ∧ lit "fail" ≠ lit "if" := by decide +kernel
def sp__block_lines (_ : PySem.W.Frag) : Sp := fun vs H Q _ => ∃ (t : Addr) (x : Str), vs = [.ref t, .str x] ∧ H t = some (.tup [.str (S (lit "fail"))]) ∧ Rl H [] Q
theorem ok__block_lines {f : Addr} {C_Store C_Record C_Rule C_Book C_Job C_StoreReader : Addr} {fd : FuncData} (F : Fun K "_block_lines" "_block_lines" s__block_lines f fd) (T : Tx mg) (G : Gx K mg) (TC_Store : Tc_Store K C_Store) (TC_Record : Tc_Record K C_Record) (TC_Rule : Tc_Rule K C_Rule) (TC_Book : Tc_Book K C_Book) (TC_Job : Tc_Job K C_Job) (TC_StoreReader : Tc_StoreReader K C_StoreReader)  : FnOk P w K mg base CX0 1 f fd ["statement", "indent"] (sp__block_lines K) := by
  refine F.ok sc__block_lines (fun vs H Q E h => ?_) (fun cdv A outer s H vs Q E hr h => ?_)
  · obtain ⟨t, x, rfl, _⟩ := h
    rfl
  · obtain ⟨t, x, rfl, ht, q⟩ := h
    refine ⟨_, (pss_cons (ps_if (pt_cmpR op_eq (pe_ix ix_tup (pv 0) pe_int (fun _ _ => rfl)) pe_str (nomark _)) Kw.pss_never pss_nil) (pss_cons (ps_if (pt_cmpR op_ne (pe_ix ix_tup (pv 0) pe_int (fun _ _ => rfl)) pe_str (nomark _)) (pss_one (ps_ret (pe_lst pa_nil))) pss_nil) Kw.pss_never)), ?_⟩
    refine q_when (b := false) (et_is (et_test (ev_op (ev_op (ev_var rfl) ev_c (rv_ixT (st_of ht) (atI_nat (j := 0) rfl))) (ev_cS (l := lit "each") rfl) rv_eqS)) (decide_eq_false fail_ne.1)) (fun z => nomatch z) fun _ H1 e1 => ?_
    exact q_when (b := true) (et_is (et_test (ev_op (ev_op (ev_var rfl) ev_c (rv_ixT (st_of (e1 _ _ ht)) (atI_nat (j := 0) rfl))) (ev_cS (l := lit "if") rfl) rv_neS)) (by rw [decide_eq_false fail_ne.2]; rfl)) (fun _ H2 e2 => s_retL (el_lst ea_nil (by decide)) fun p H3 np e3 hp => q p H3 (fresh_back (e1.trans e2) np) ((e1.trans e2).trans e3) hp) (fun z => nomatch z)
def bdL (i : Nat) : List (List Nat) := if i = 0 then [] else [lit "  fail"]
theorem s_ext {σ : L2.St} {H : Hp} {D : Ends} {ta te : TE} {l : Addr} {xs ys : List V} (hl : H l = some (.lst xs)) (ha : Ev ta σ H (.ref l)) (h : EvL te σ H ys) (hz : xs.length + ys.length ≤ 100000) (k : ∀ H1, Ex H H1 → D.nx σ (upd H1 l (.lst (xs ++ ys)))) :
    tDrop (tBM K "list" rExtend ta (tCons te tNil)) D σ H := ha H (Ex.refl H) _ fun H1 e1 =>
  ⟨Or.inl ⟨rfl, xs, sq_of (e1 l _ hl)⟩, h H1 e1 _ fun p H2 np e2 hp => ⟨l, p, xs, ys, rfl, rfl, e2 l _ (e1 l _ hl), hp, sz_of hz, k H2 (e1.trans e2)⟩⟩
theorem el_call' {σ : L2.St} {H : Hp} {ta : TA} {sp : Sp} {E : XK} {vs xs : List V} (h : EvA ta σ H vs) (hs : ∀ H1, Ex H H1 → ∀ Q : VK, Rl H1 xs Q → ∀ E, sp vs H1 Q E) : EvL (tCall sp [] E ta) σ H xs := fun H1 e Q q => h H1 e _ fun H2 e2 => by
  rw [List.append_nil]
  exact hs H2 (e.trans e2) Q (fun p H3 np e3 hp => q p H3 (fresh_back e2 np) (e2.trans e3) hp) E
theorem ev_call' {σ : L2.St} {H : Hp} {ta : TA} {sp : Sp} {E : XK} {vs : List V} {z : V} (h : EvA ta σ H vs) (hs : ∀ H1, Ex H H1 → ∀ Q : VK, Rt H1 z Q → ∀ E, sp vs H1 Q E) : Ev (tCall sp [] E ta) σ H z := fun H1 e Q q => h H1 e _ fun H2 e2 => by
  rw [List.append_nil]
  exact hs H2 (e.trans e2) Q (fun H3 e3 => q H3 (e2.trans e3)) E
def sp__body_lines (_ : PySem.W.Frag) : Sp := fun vs H Q _ => ∃ (c : Addr) (i : Nat), vs = [.ref c, .str (S [32, 32])] ∧ BdO H c i ∧ Rl H ((bdL i).map fun l => V.str (S l)) Q
theorem ok__body_lines {f : Addr} {C_Store C_Record C_Rule C_Book C_Job C_StoreReader : Addr} {fd : FuncData} (F : Fun K "_body_lines" "_body_lines" s__body_lines f fd) (T : Tx mg) (G : Gx K mg) (TC_Store : Tc_Store K C_Store) (TC_Record : Tc_Record K C_Record) (TC_Rule : Tc_Rule K C_Rule) (TC_Book : Tc_Book K C_Book) (TC_Job : Tc_Job K C_Job) (TC_StoreReader : Tc_StoreReader K C_StoreReader) (C__first_line : Kn.Cl P w K mg base 1 "_first_line" (sp__first_line K)) (C__block_lines : Kn.Cl P w K mg base 1 "_block_lines" (sp__block_lines K)) : FnOk P w K mg base CX0 2 f fd ["body", "indent"] (sp__body_lines K) := by
  refine F.ok sc__body_lines (fun vs H Q E h => ?_) (fun cdv A outer s H vs Q E hr h => ?_)
  · obtain ⟨c, i, rfl, _⟩ := h
    rfl
  · obtain ⟨c, i, rfl, hb, q⟩ := h
    refine ⟨_, (pss_cons (ps_set (i := 2) sc__body_lines.nd rfl (Or.inl rfl) (pe_lst pa_nil))
      (pss_cons (ps_for PassesOwn.never rfl (pi_tup (pv 0)) (pg_name (i := 3) sc__body_lines.nd rfl (Or.inl rfl)) (pss_cons (ps_expr (pe_bm PySem.F.plainAttrs_list PySem.F.slot_list_append PySem.F.type_list_append mt_append (pv 2) (pa_cons (pe_op Kn.op_addS (pv 1) (Kn.pe_cl C__first_line hr (by decide) (by rfl) (pa_cons (pv 3) pa_nil))) pa_nil)))
      (pss_one (ps_expr (pe_bm PySem.F.plainAttrs_list PySem.F.slot_list_extend PySem.F.type_list_extend L2.mt_extend (pv 2) (pa_cons (Kn.pe_cl C__block_lines hr (by decide) (by rfl) (pa_cons (pv 3) (pa_cons (pv 1) pa_nil))) pa_nil))))))
      (pss_one (ps_ret (pv 2))))), ?_⟩
    refine q_asgL (el_lst ea_nil (by decide)) fun p H1 np e1 hp => ?_
    have hb1 := hb.mono e1
    by_cases hi : i = 0
    · unfold BdO at hb1
      rw [if_pos hi] at hb1
      have hq : bdL i = [] := by unfold bdL; rw [if_pos hi]
      rw [hq] at q
      refine q_forT (ev_var rfl) (st_of hb1) (fun _ σ' H' => ∃ y, σ' = [some (.ref c), some (.str (S [32, 32])), some (.ref p), y] ∧ Ex H1 H') (fun H2 e2 => ⟨_, rfl, e2⟩) (fun _ _ _ _ ⟨_, _, e2⟩ => st_of (e2 _ _ hb1)) (fun i x _ _ hx _ => by simp at hx) ?_
      rintro σ' H2 ⟨y, rfl, e2⟩
      exact s_ret (ev_var rfl) fun H3 e3 => q p H3 np ((e1.trans e2).trans e3) ((e2.trans e3) _ _ hp)
    · unfold BdO at hb1
      rw [if_neg hi] at hb1
      obtain ⟨t, hc, ht⟩ := hb1
      have hq : bdL i = [lit "  fail"] := by unfold bdL; rw [if_neg hi]
      rw [hq] at q
      have npc : c ≠ p := ne_of hc hp (by intro z; cases z)
      have npt : t ≠ p := ne_of ht hp (by intro z; cases z)
      refine q_forT (ev_var rfl) (st_of hc) (fun k σ' H' => ∃ y, σ' = [some (.ref c), some (.str (S [32, 32])), some (.ref p), y] ∧ (∀ b o, H b = some o → H' b = some o) ∧ H' c = some (.tup [.ref t]) ∧ H' t = some (.tup [.str (S (lit "fail"))]) ∧ H' p = some (.lst (if k = 0 then [] else [.str (S (lit "  fail"))]))) (fun H2 e2 => ⟨_, rfl, fun b o h => e2 _ _ (e1 _ _ h), e2 _ _ hc, e2 _ _ ht, e2 _ _ hp⟩) (fun _ _ _ _ ⟨_, _, _, h, _⟩ => st_of h) ?_ ?_
      · rintro k x σ' H2 hx ⟨y, rfl, hH, hc2, ht2, hp2⟩
        have hk : k = 0 ∧ x = .ref t := by
          match k, hx with
          | 0, hx => cases hx; exact ⟨rfl, rfl⟩
          | k + 1, hx => simp at hx
        obtain ⟨rfl, rfl⟩ := hk
        rw [if_pos rfl] at hp2
        show tSeq _ _ _ _ _
        refine q_app (v := .str (S (lit "  fail"))) hp2 (ev_var rfl) (ev_op (ev_var rfl) (ev_call' (z := .str (S (lit "fail"))) (ea_cons (ev_var rfl) ea_nil) fun H3 e3 Q q E => ⟨t, rfl, e3 _ _ ht2, q⟩) (rv_addS (by decide +kernel))) (by decide) fun H3 e3 => ?_
        have hp3 : upd H3 p (.lst ([] ++ [V.str (S (lit "  fail"))])) p = some (.lst [V.str (S (lit "  fail"))]) := upd_same
        have ht3 : upd H3 p (.lst ([] ++ [V.str (S (lit "  fail"))])) t = some (.tup [.str (S (lit "fail"))]) := by rw [upd_ne npt]; exact e3 _ _ ht2
        refine s_ext hp3 (ev_var rfl) (el_call' (xs := []) (ea_cons (ev_var rfl) (ea_cons (ev_var rfl) ea_nil)) fun H4 e4 Q q E => ⟨t, _, rfl, e4 _ _ ht3, q⟩) (by decide) fun H4 e4 => ⟨_, rfl, fun b o h => ?_, ?_, ?_, ?_⟩
        · have nb : b ≠ p := ne_of_none h np
          rw [upd_ne nb]
          refine e4 _ _ ?_
          rw [upd_ne nb]
          exact e3 _ _ (hH _ _ h)
        · rw [upd_ne npc]
          refine e4 _ _ ?_
          rw [upd_ne npc]
          exact e3 _ _ hc2
        · rw [upd_ne npt]
          exact e4 _ _ ht3
        · exact upd_same
      · rintro σ' H2 ⟨y, rfl, hH, hc2, ht2, hp2⟩
        exact s_ret (ev_var rfl) fun H3 e3 => q p H3 np (fun b o h => e3 _ _ (hH _ _ h)) (e3 _ _ hp2)
/-! ### the objects -/
theorem fu_o (a b c : Addr) (s : Bool) : (fldU a b c s).lookup ("outputs" : Str) = some (.ref a) := by rfl
theorem fu_i (a b c : Addr) (s : Bool) : (fldU a b c s).lookup ("inputs" : Str) = some (.ref b) := by rfl
theorem fu_s (a b c : Addr) (s : Bool) : (fldU a b c s).lookup ("sealed" : Str) = some (.bl s) := by rfl
theorem fu_b (a b c : Addr) (s : Bool) : (fldU a b c s).lookup ("body" : Str) = some (.ref c) := by rfl
def sp_Rule___init__ (C : Addr) (_ : PySem.W.Frag) : Sp := fun vs H Q _ => ∃ (p dx a b c : Addr) (s : Bool), vs = [.ref p, .ref a, .ref b, .bl s, .ref c] ∧ H p = some (.ins C dx []) ∧ ∀ H', H' p = some (.ins C dx (fldU a b c s)) → (∀ b x, H b = some x → b ≠ p → H' b = some x) → Q .non H'
theorem ok_Rule___init__ {f : Addr} {C_Store C_Record C_Rule C_Book C_Job C_StoreReader : Addr} {fd : FuncData} (F : Fun K "__init__" "Rule.__init__" s_Rule___init__ f fd) (T : Tx mg) (G : Gx K mg) (TC_Store : Tc_Store K C_Store) (TC_Record : Tc_Record K C_Record) (TC_Rule : Tc_Rule K C_Rule) (TC_Book : Tc_Book K C_Book) (TC_Job : Tc_Job K C_Job) (TC_StoreReader : Tc_StoreReader K C_StoreReader)  : FnOk P w K mg base CX0 1 f fd ["self", "outputs", "inputs", "sealed", "body"] (sp_Rule___init__ C_Rule K) := by
  refine F.ok sc_Rule___init__ (fun vs H Q E h => ?_) (fun cdv A outer s H vs Q E hr h => ?_)
  · obtain ⟨p, dx, a, b, c, s, rfl, _⟩ := h
    rfl
  · obtain ⟨p, dx, a, b, c, s, rfl, hp, kk⟩ := h
    refine ⟨_, (pss_cons (ps_fld (pv 0) (pv 1) rfl)
      (pss_cons (ps_fld (pv 0) (pv 2) rfl)
      (pss_cons (ps_fld (pv 0) (pv 3) rfl)
      (pss_one (ps_fld (pv 0) (pv 4) rfl))))), ?_⟩
    refine ⟨_, rfl, _, rfl, p, C_Rule, dx, _, rfl, hp, TC_Rule.cl, TC_Rule.na_outputs, (by show 0 < 1000; decide), ?_⟩
    refine ⟨_, rfl, _, rfl, p, C_Rule, dx, _, rfl, upd_same, TC_Rule.cl, TC_Rule.na_inputs, (by show 1 < 1000; decide), ?_⟩
    refine ⟨_, rfl, _, rfl, p, C_Rule, dx, _, rfl, upd_same, TC_Rule.cl, TC_Rule.na_sealed, (by show 2 < 1000; decide), ?_⟩
    refine ⟨_, rfl, _, rfl, p, C_Rule, dx, _, rfl, upd_same, TC_Rule.cl, TC_Rule.na_body, (by show 3 < 1000; decide), ?_⟩
    refine kk _ upd_same fun b x hb hne => ?_
    rw [upd_ne hne, upd_ne hne, upd_ne hne, upd_ne hne]
    exact hb
def fldJ (i : Nat) (a b : Addr) : List (Str × V) := putF "inputs" (.ref b) (putF "outputs" (.ref a) (putF "stem" (.str (S [])) (putF "rule" (.int (i : Int)) [])))
theorem fj_r (i : Nat) (a b : Addr) : (fldJ i a b).lookup ("rule" : Str) = some (.int (i : Int)) := by rfl
theorem fj_s (i : Nat) (a b : Addr) : (fldJ i a b).lookup ("stem" : Str) = some (.str (S [])) := by rfl
theorem fj_o (i : Nat) (a b : Addr) : (fldJ i a b).lookup ("outputs" : Str) = some (.ref a) := by rfl
def sp_Job___init__ (C : Addr) (_ : PySem.W.Frag) : Sp := fun vs H Q _ => ∃ (p dx a b : Addr) (i : Nat), vs = [.ref p, .int (i : Int), .str (S []), .ref a, .ref b] ∧ H p = some (.ins C dx []) ∧ ∀ H', H' p = some (.ins C dx (fldJ i a b)) → (∀ b x, H b = some x → b ≠ p → H' b = some x) → Q .non H'
theorem ok_Job___init__ {f : Addr} {C_Store C_Record C_Rule C_Book C_Job C_StoreReader : Addr} {fd : FuncData} (F : Fun K "__init__" "Job.__init__" s_Job___init__ f fd) (T : Tx mg) (G : Gx K mg) (TC_Store : Tc_Store K C_Store) (TC_Record : Tc_Record K C_Record) (TC_Rule : Tc_Rule K C_Rule) (TC_Book : Tc_Book K C_Book) (TC_Job : Tc_Job K C_Job) (TC_StoreReader : Tc_StoreReader K C_StoreReader)  : FnOk P w K mg base CX0 1 f fd ["self", "rule", "stem", "outputs", "inputs"] (sp_Job___init__ C_Job K) := by
  refine F.ok sc_Job___init__ (fun vs H Q E h => ?_) (fun cdv A outer s H vs Q E hr h => ?_)
  · obtain ⟨p, dx, a, b, i, rfl, _⟩ := h
    rfl
  · obtain ⟨p, dx, a, b, i, rfl, hp, kk⟩ := h
    refine ⟨_, (pss_cons (ps_fld (pv 0) (pv 1) rfl)
      (pss_cons (ps_fld (pv 0) (pv 2) rfl)
      (pss_cons (ps_fld (pv 0) (pv 3) rfl)
      (pss_one (ps_fld (pv 0) (pv 4) rfl))))), ?_⟩
    refine ⟨_, rfl, _, rfl, p, C_Job, dx, _, rfl, hp, TC_Job.cl, TC_Job.na_rule, (by show 0 < 1000; decide), ?_⟩
    refine ⟨_, rfl, _, rfl, p, C_Job, dx, _, rfl, upd_same, TC_Job.cl, TC_Job.na_stem, (by show 1 < 1000; decide), ?_⟩
    refine ⟨_, rfl, _, rfl, p, C_Job, dx, _, rfl, upd_same, TC_Job.cl, TC_Job.na_outputs, (by show 2 < 1000; decide), ?_⟩
    refine ⟨_, rfl, _, rfl, p, C_Job, dx, _, rfl, upd_same, TC_Job.cl, TC_Job.na_inputs, (by show 3 < 1000; decide), ?_⟩
    refine kk _ upd_same fun b x hb hne => ?_
    rw [upd_ne hne, upd_ne hne, upd_ne hne, upd_ne hne]
    exact hb
def fldB (st ru fi : Addr) : List (Str × V) := putF "files" (.ref fi) (putF "rules" (.ref ru) (putF "settings" (.ref st) []))
theorem fb_r (a b c : Addr) : (fldB a b c).lookup ("rules" : Str) = some (.ref b) := by rfl
def sp_Book___init__ (C : Addr) (_ : PySem.W.Frag) : Sp := fun vs H Q _ => ∃ (p dx : Addr), vs = [.ref p] ∧ H p = some (.ins C dx []) ∧ ∀ (d r f : Addr) (H' : Hp), H d = none → H r = none → H f = none → H' p = some (.ins C dx (fldB d r f)) → H' r = some (.lst []) → (∀ b o, H b = some o → b ≠ p → H' b = some o) → Q .non H'
theorem ok_Book___init__ {f : Addr} {C_Store C_Record C_Rule C_Book C_Job C_StoreReader : Addr} {fd : FuncData} (F : Fun K "__init__" "Book.__init__" s_Book___init__ f fd) (T : Tx mg) (G : Gx K mg) (TC_Store : Tc_Store K C_Store) (TC_Record : Tc_Record K C_Record) (TC_Rule : Tc_Rule K C_Rule) (TC_Book : Tc_Book K C_Book) (TC_Job : Tc_Job K C_Job) (TC_StoreReader : Tc_StoreReader K C_StoreReader)  : FnOk P w K mg base CX0 1 f fd ["self"] (sp_Book___init__ C_Book K) := by
  refine F.ok sc_Book___init__ (fun vs H Q E h => ?_) (fun cdv A outer s H vs Q E hr h => ?_)
  · obtain ⟨p, dx, rfl, _⟩ := h
    rfl
  · obtain ⟨p, dx, rfl, hp, k⟩ := h
    refine ⟨_, (pss_cons (ps_fld (pv 0) pe_dnewK rfl)
      (pss_cons (ps_fld (pv 0) (pe_lst pa_nil) rfl)
      (pss_one (ps_fld (pv 0) (pe_lst pa_nil) rfl)))), ?_⟩
    refine fun d hd => ⟨_, rfl, p, C_Book, dx, _, rfl, (by rw [upd_ne (ne_of_none hp hd)]; exact hp), TC_Book.cl, TC_Book.na_settings, (by show 0 < 1000; decide), ?_⟩
    have npd : p ≠ d := ne_of_none hp hd
    refine ⟨sz_of (by show 0 ≤ 100000; decide), fun r hr => ?_⟩
    have npr : r ≠ p := fun z => by rw [z, upd_same] at hr; cases hr
    rw [upd_ne npr] at hr
    have nrd : r ≠ d := fun z => by rw [z, upd_same] at hr; cases hr
    rw [upd_ne nrd] at hr
    refine ⟨_, rfl, p, C_Book, dx, _, rfl, (by rw [upd_ne npr.symm]; exact upd_same), TC_Book.cl, TC_Book.na_rules, (by show 1 < 1000; decide), ?_⟩
    refine ⟨sz_of (by show 0 ≤ 100000; decide), fun f hf => ?_⟩
    have npf : f ≠ p := fun z => by rw [z, upd_same] at hf; cases hf
    rw [upd_ne npf] at hf
    have nfr : f ≠ r := fun z => by rw [z, upd_same] at hf; cases hf
    rw [upd_ne nfr, upd_ne npf] at hf
    have nfd : f ≠ d := fun z => by rw [z, upd_same] at hf; cases hf
    rw [upd_ne nfd] at hf
    refine ⟨_, rfl, p, C_Book, dx, _, rfl, (by rw [upd_ne npf.symm]; exact upd_same), TC_Book.cl, TC_Book.na_files, (by show 2 < 1000; decide), ?_⟩
    refine k d r f _ hd hr hf upd_same ?_ fun b o hb hne => ?_
    · rw [upd_ne npr, upd_ne nfr.symm, upd_ne npr, upd_same]
    · rw [upd_ne hne, upd_ne (ne_of_none hb hf), upd_ne hne, upd_ne (ne_of_none hb hr), upd_ne hne, upd_ne (ne_of_none hb hd)]
      exact hb
end

section
variable {P : Program} {w : World} {K : PySem.W.Frag} {mg : Str → Option Value} {base : Heap}
/-! ### texts of the rules -/
def hdW (i : Nat) : List (List Nat) := ([if i = 0 then lit "rule" else lit "sealed"] ++ rOut i) ++ [[58]] ++ rInp i
def hdT (i : Nat) : List Nat := TL.joinL [32] (hdW i)
def ruL (i : Nat) : List (List Nat) := ([hdT i] ++ bdL i) ++ [lit "end"]
def ruT (i : Nat) : List Nat := TL.joinL [10] (ruL i)
theorem ix2 {i : Nat} (h : i < 2) : i = 0 ∨ i = 1 := by omega
def sp_format_rule (C : Addr) (_ : PySem.W.Frag) : Sp := fun vs H Q _ => ∃ (p : Addr) (i : Nat), vs = [.ref p] ∧ i < 2 ∧ RuO C H p i ∧ Rt H (.str (S (ruT i))) Q
theorem ok_format_rule {f : Addr} {C_Store C_Record C_Rule C_Book C_Job C_StoreReader : Addr} {fd : FuncData} (F : Fun K "format_rule" "format_rule" s_format_rule f fd) (T : Tx mg) (G : Gx K mg) (TC_Store : Tc_Store K C_Store) (TC_Record : Tc_Record K C_Record) (TC_Rule : Tc_Rule K C_Rule) (TC_Book : Tc_Book K C_Book) (TC_Job : Tc_Job K C_Job) (TC_StoreReader : Tc_StoreReader K C_StoreReader) (C__body_lines : Kn.Cl P w K mg base 2 "_body_lines" (sp__body_lines K)) : FnOk P w K mg base CX0 3 f fd ["rule"] (sp_format_rule C_Rule K) := by
  refine F.ok sc_format_rule (fun vs H Q E h => ?_) (fun cdv A outer s H vs Q E hr h => ?_)
  · obtain ⟨p, i, rfl, _⟩ := h
    rfl
  · obtain ⟨p, i, rfl, hi, R, q⟩ := h
    refine ⟨_, (pss_cons (ps_set (i := 1) sc_format_rule.nd rfl (Or.inl rfl) (pe_ifExp (pt_val (pe_fld (pv 0) rfl)) pe_str pe_str))
      (pss_cons (ps_set (i := 2) sc_format_rule.nd rfl (Or.inl rfl) (Kn.pe_joinN (pe_join pe_str (pe_op op_cat (pe_op op_cat (pe_op op_cat (pe_lst (pa_cons (pv 1) pa_nil)) (pe_callTy Kn.cr_listS (by rfl) T.b_list (by decide +kernel) (pa_cons (pe_fld (pv 0) rfl) pa_nil))) (pe_lst (pa_cons pe_str pa_nil))) (pe_callTy Kn.cr_listS (by rfl) T.b_list (by decide +kernel) (pa_cons (pe_fld (pv 0) rfl) pa_nil))))))
      (pss_one (ps_ret (Kn.pe_joinN (pe_join pe_str (pe_op op_cat (pe_op op_cat (pe_lst (pa_cons (pv 2) pa_nil)) (Kn.pe_cl C__body_lines hr (by decide) (by rfl) (pa_cons (pe_fld (pv 0) rfl) (pa_cons (C8.pe_gc (by rfl) T.c_INDENT) pa_nil)))) (pe_lst (pa_cons pe_str pa_nil))))))))), ?_⟩
    obtain ⟨dx, a, b, c, hp, ha, hb, hc⟩ := R.ex
    refine q_asg (v := .str (S (if i = 0 then lit "rule" else lit "sealed"))) (ev_if (b := rSl i) (et_B (ev_fld (ev_var rfl) hp TC_Rule.cl TC_Rule.na_sealed (fu_s a b c _))) (fun hz => ?_) (fun hz => ?_)) fun H1 e1 => ?_
    · unfold rSl at hz
      by_cases h0 : i = 0
      · rw [if_pos h0] at hz; cases hz
      · rw [if_neg h0]; exact ev_cS rfl
    · unfold rSl at hz
      by_cases h0 : i = 0
      · rw [if_pos h0]; exact ev_cS rfl
      · rw [if_neg h0] at hz; cases hz
    refine q_asg (v := .str (S (hdT i))) (ev_join (s := [32]) (ys := hdW i) (ev_cS rfl) ?_ ?_) fun H2 e2 => ?_
    · unfold hdW
      rw [List.map_append, List.map_append, List.map_append]
      refine el_cat (el_cat (el_cat (el_lst (ea_cons (ev_var rfl) ea_nil) (by show 1 ≤ 100000; decide)) (el_listT (ev_fld (ev_var rfl) (e1 _ _ hp) TC_Rule.cl TC_Rule.na_outputs (fu_o a b c _)) (e1 _ _ ha)) ?_) (el_lst (ea_cons (ev_cS (l := [58]) rfl) ea_nil) (by show 1 ≤ 100000; decide)) ?_) (el_listT (ev_fld (ev_var rfl) (e1 _ _ hp) TC_Rule.cl TC_Rule.na_inputs (fu_i a b c _)) (e1 _ _ hb)) ?_
      all_goals (rcases ix2 hi with rfl | rfl <;> decide)
    · rcases ix2 hi with rfl | rfl <;> decide +kernel
    refine s_ret (v := .str (S (ruT i))) (ev_join (s := [10]) (ys := ruL i) (ev_cS rfl) ?_ ?_) fun H3 e3 => q H3 ((e1.trans e2).trans e3)
    · unfold ruL
      rw [List.map_append, List.map_append]
      have e12 := e1.trans e2
      refine el_cat (el_cat (el_lst (ea_cons (ev_var rfl) ea_nil) (by show 1 ≤ 100000; decide)) (el_call' (ea_cons (ev_fld (ev_var rfl) (e12 _ _ hp) TC_Rule.cl TC_Rule.na_body (fu_b a b c _)) (ea_cons (ev_cS (l := [32, 32]) rfl) ea_nil)) fun H4 e4 Q q E => ⟨c, i, rfl, hc.mono (e12.trans e4), q⟩) ?_) (el_lst (ea_cons (ev_cS (l := lit "end") rfl) ea_nil) (by show 1 ≤ 100000; decide)) ?_
      all_goals (rcases ix2 hi with rfl | rfl <;> decide)
    · rcases ix2 hi with rfl | rfl <;> decide +kernel
def star : Str := "*"
def noStar (l : List Nat) : Bool := (Builtin.Str.occurrences (S l) star 0 (S l).length ((S l).length + 1)).isEmpty
def sp_fill (_ : PySem.W.Frag) : Sp := fun vs H Q _ => ∃ (l : List Nat) (z : Str), vs = [.str (S l), .str z] ∧ pathOk l = true ∧ l.length ≤ 100 ∧ noStar l = true ∧ Rt H (.str (S l)) Q
theorem ok_fill {f : Addr} {C_Store C_Record C_Rule C_Book C_Job C_StoreReader : Addr} {fd : FuncData} (F : Fun K "fill" "fill" s_fill f fd) (T : Tx mg) (G : Gx K mg) (TC_Store : Tc_Store K C_Store) (TC_Record : Tc_Record K C_Record) (TC_Rule : Tc_Rule K C_Rule) (TC_Book : Tc_Book K C_Book) (TC_Job : Tc_Job K C_Job) (TC_StoreReader : Tc_StoreReader K C_StoreReader) (C_is_path : Kn.Cl P w K mg base 2 "is_path" (sp_is_path K)) : FnOk P w K mg base CX0 3 f fd ["pattern", "stem"] (sp_fill K) := by
  refine F.ok sc_fill (fun vs H Q E h => ?_) (fun cdv A outer s H vs Q E hr h => ?_)
  · obtain ⟨l, z, rfl, _⟩ := h
    rfl
  · obtain ⟨l, z, rfl, hp, hl, hn, q⟩ := h
    refine ⟨_, (pss_cons (ps_set (i := 2) sc_fill.nd rfl (Or.inl rfl) (pe_replNo (pv 0) (pv 1)))
      (pss_cons (ps_if (pt_not (pt_val (Kn.pe_cl C_is_path hr (by decide) (by rfl) (pa_cons (pv 2) pa_nil)))) (pss_one Kw.ps_never) pss_nil)
      (pss_one (ps_ret (pv 2))))), ?_⟩
    refine q_asg (v := .str (S l)) (fun H1 e1 Q q => ⟨_, rfl, S l, rfl, _, rfl, z, rfl, hn, q H1 (Ex.refl H1)⟩) fun H1 e1 => ?_
    refine q_when (b := false) (et_is (et_not (a := true) (et_B (ev_is (ev_c1 (a := l) (ea_cons (ev_var rfl) ea_nil) fun _ _ => (by show l.length ≤ 30000; omega)) (by rw [hp])))) rfl) (fun z => nomatch z) fun _ H2 e2 => ?_
    exact s_ret (ev_var rfl) fun H3 e3 => q H3 ((e1.trans e2).trans e3)
structure BkO (CB CR : Addr) (H : Hp) (b : Addr) : Prop where
  ex : ∃ dx d r f p0 p1, H b = some (.ins CB dx (fldB d r f)) ∧ H r = some (.lst [.ref p0, .ref p1]) ∧ RuO CR H p0 0 ∧ RuO CR H p1 1
theorem BkO.mono {CB CR : Addr} {H H1 : Hp} {b : Addr} (h : BkO CB CR H b) (e : Ex H H1) : BkO CB CR H1 b := by
  obtain ⟨dx, d, r, f, p0, p1, h1, h2, h3, h4⟩ := h.ex
  exact ⟨dx, d, r, f, p0, p1, e _ _ h1, e _ _ h2, h3.mono e, h4.mono e⟩
theorem BkO.at {CB CR : Addr} {H : Hp} {b i : Nat} (h : BkO CB CR H b) (hi : i < 2) : ∃ dx d r f p xs, H b = some (.ins CB dx (fldB d r f)) ∧ H r = some (.lst xs) ∧ xs[i]? = some (.ref p) ∧ RuO CR H p i := by
  obtain ⟨dx, d, r, f, p0, p1, h1, h2, h3, h4⟩ := h.ex
  rcases ix2 hi with rfl | rfl
  · exact ⟨dx, d, r, f, p0, _, h1, h2, rfl, h3⟩
  · exact ⟨dx, d, r, f, p1, _, h1, h2, rfl, h4⟩
structure JbO (C : Addr) (H : Hp) (j : Addr) (i : Nat) : Prop where
  ex : ∃ dx a b, H j = some (.ins C dx (fldJ i a b)) ∧ H a = some (.tup (strsV (rOut i)))
theorem JbO.mono {C : Addr} {H H1 : Hp} {j : Addr} {i : Nat} (h : JbO C H j i) (e : Ex H H1) : JbO C H1 j i := by
  obtain ⟨dx, a, b, h1, h2⟩ := h.ex
  exact ⟨dx, a, b, e _ _ h1, e _ _ h2⟩
theorem fill_ok {i : Nat} (hi : i < 2) : ∀ l, l ∈ rOut i ∨ l ∈ rInp i → pathOk l = true ∧ l.length ≤ 100 ∧ noStar l = true := by
  have h : ∀ l ∈ [[97], [98], [99], [100]], pathOk l = true ∧ l.length ≤ 100 ∧ noStar l = true := by decide +kernel
  intro l hl
  refine h l ?_
  rcases ix2 hi with rfl | rfl
  · rcases hl with z | z <;> simp [rOut, rInp] at z <;> simp [z]
  · rcases hl with z | z <;> simp [rOut, rInp] at z
    rcases z with z | z <;> simp [z]
theorem s_retJob {σ : L2.St} {H : Hp} {D : Ends} {C : Addr} {tA : TA} {i : Nat} {o n : Addr} (hA : EvA tA σ H [.int (i : Int), .str (S []), .ref o, .ref n]) (ho : H o = some (.tup (strsV (rOut i)))) (q : ∀ jp H5, H jp = none → Ex H H5 → JbO C H5 jp i → D.rt (.ref jp) H5) : tRet (tMake C (sp_Job___init__ C K) [] E0 tA) D σ H :=
  hA H (Ex.refl H) _ fun H4 e4 => by
    intro jp dx3 np nx ne
    refine ⟨jp, dx3, o, n, i, rfl, upd_same, fun H5 h6 k6 => ⟨rfl, ?_⟩⟩
    have e45 : Ex H4 H5 := fun b x hb => k6 b x (by rw [upd_ne (ne_of_none hb np), upd_ne (ne_of_none hb nx)]; exact hb) (ne_of_none hb np)
    exact q jp H5 (fresh_back e4 np) (e4.trans e45) ⟨dx3, o, n, h6, (e4.trans e45) _ _ ho⟩
def sp_make_job (CR CB CJ : Addr) (_ : PySem.W.Frag) : Sp := fun vs H Q _ => ∃ (b : Addr) (i : Nat), vs = [.ref b, .int (i : Int), .str (S [])] ∧ i < 2 ∧ BkO CB CR H b ∧ ∀ j H', H j = none → Ex H H' → JbO CJ H' j i → Q (.ref j) H'
theorem ok_make_job {f : Addr} {C_Store C_Record C_Rule C_Book C_Job C_StoreReader : Addr} {fd : FuncData} (F : Fun K "make_job" "make_job" s_make_job f fd) (T : Tx mg) (G : Gx K mg) (TC_Store : Tc_Store K C_Store) (TC_Record : Tc_Record K C_Record) (TC_Rule : Tc_Rule K C_Rule) (TC_Book : Tc_Book K C_Book) (TC_Job : Tc_Job K C_Job) (TC_StoreReader : Tc_StoreReader K C_StoreReader) (C_fill : Kn.Cl P w K mg base 3 "fill" (sp_fill K)) (M_Job : Kn.Mkr P w K mg base 1 "Job" C_Job (sp_Job___init__ C_Job K)) : FnOk P w K mg base CX0 4 f fd ["book", "rule", "stem"] (sp_make_job C_Rule C_Book C_Job K) := by
  refine F.ok sc_make_job (fun vs H Q E h => ?_) (fun cdv A outer s H vs Q E hr h => ?_)
  · obtain ⟨b, i, rfl, _⟩ := h
    rfl
  · obtain ⟨b, i, rfl, hi, B, q⟩ := h
    refine ⟨_, (pss_cons (ps_set (i := 3) sc_make_job.nd rfl (Or.inl rfl) (pe_callTy Kn.cr_tupS (by rfl) T.b_tuple (by decide +kernel) (pa_cons (pe_lc (own := [("pattern", 5)]) rfl sc_make_job.nd (pi_tup (pe_fld (pe_ix ix_list (pe_fld (pv 0) rfl) (pv 1) (fun _ _ => rfl)) rfl)) (blkOk_by (own := [("pattern", 5)]) (N := N_make_job) (sc := defScope s_make_job) (by decide +kernel)) (fun _ _ _ _ _ => pg_name (i := 5) sc_make_job.nd rfl (Or.inl rfl)) (fun _ _ _ _ _ => pts_nil) (fun _ _ _ _ _ => (Kn.pe_cl C_fill hr (by decide) (by rfl) (pa_cons (pv 5) (pa_cons (pv 2) pa_nil))))) pa_nil)))
      (pss_cons (ps_set (i := 4) sc_make_job.nd rfl (Or.inl rfl) (pe_callTy Kn.cr_tupS (by rfl) T.b_tuple (by decide +kernel) (pa_cons (pe_lc (own := [("pattern", 5)]) rfl sc_make_job.nd (pi_tup (pe_fld (pe_ix ix_list (pe_fld (pv 0) rfl) (pv 1) (fun _ _ => rfl)) rfl)) (blkOk_by (own := [("pattern", 5)]) (N := N_make_job) (sc := defScope s_make_job) (by decide +kernel)) (fun _ _ _ _ _ => pg_name (i := 5) sc_make_job.nd rfl (Or.inl rfl)) (fun _ _ _ _ _ => pts_nil) (fun _ _ _ _ _ => (Kn.pe_cl C_fill hr (by decide) (by rfl) (pa_cons (pv 5) (pa_cons (pv 2) pa_nil))))) pa_nil)))
      (pss_one (ps_ret (Kn.pe_mkr M_Job hr (by decide) (by rfl) (pa_cons (pv 1) (pa_cons (pv 2) (pa_cons (pv 3) (pa_cons (pv 4) pa_nil))))))))), ?_⟩
    obtain ⟨dx, d, r, f, p, xs, hb, hr', hx, R⟩ := B.at hi
    obtain ⟨dx2, a1, b1, c1, hp, ha, hb1, _⟩ := R.ex
    have evr : ∀ {σ : L2.St} {H1 : Hp}, σ[0]? = some (some (.ref b)) → σ[1]? = some (some (.int (i : Int))) → Ex H H1 → Ev (tOp (rIxL K) (tFld K (tVar 0) "rules") (tVar 1)) σ H1 (.ref p) := fun h0 h1 e => ev_op (ev_fld (ev_var h0) (e _ _ hb) TC_Book.cl TC_Book.na_rules (fb_r d r f)) (ev_var h1) (rv_ixL (sq_of (e _ _ hr')) (atI_nat hx))
    have fl : ∀ {σ : L2.St} {H1 : Hp}, ∀ l, l ∈ rOut i ∨ l ∈ rInp i → σ[5]? = some (some (.str (S l))) → σ[2]? = some (some (.str (S []))) → Ev (tCall (sp_fill K) [] E0 (tCons (tVar 5) (tCons (tVar 2) tNil))) σ H1 (.str (S l)) := fun l hl h5 h2 => ev_call' (ea_cons (ev_var h5) (ea_cons (ev_var h2) ea_nil)) fun H2 e2 Q q E => ⟨l, _, rfl, (fill_ok hi l hl).1, (fill_ok hi l hl).2.1, (fill_ok hi l hl).2.2, q⟩
    refine q_asgU (xs := strsV (rOut i)) (eu_tupL (el_lcTM (g := fun l : List Nat => V.str (S l)) (f := fun l : List Nat => V.str (S l)) (ev_fld (evr rfl rfl (Ex.refl H)) hp TC_Rule.cl TC_Rule.na_outputs (fu_o a1 b1 c1 _)) ha (by rcases ix2 hi with rfl | rfl <;> decide) (fun _ => rfl) fun l hl H1 e1 => fl l (.inl hl) rfl rfl)) fun o H1 no e1 ho => ?_
    refine q_asgU (xs := strsV (rInp i)) (eu_tupL (el_lcTM (g := fun l : List Nat => V.str (S l)) (f := fun l : List Nat => V.str (S l)) (ev_fld (evr rfl rfl e1) (e1 _ _ hp) TC_Rule.cl TC_Rule.na_inputs (fu_i a1 b1 c1 _)) (e1 _ _ hb1) (by rcases ix2 hi with rfl | rfl <;> decide) (fun _ => rfl) fun l hl H2 e2 => fl l (.inr hl) rfl rfl)) fun n H2 nn e2 hn => ?_
    exact s_retJob (i := i) (o := o) (n := n) (ea_cons (ev_var rfl) (ea_cons (ev_var rfl) (ea_cons (ev_var rfl) (ea_cons (ev_var rfl) ea_nil)))) (e2 _ _ ho) fun jp H5 np e5 J => q jp H5 (fresh_back (e1.trans e2) np) ((e1.trans e2).trans e5) J
def rkT (i : Nat) : List Nat := lit "stem " ++ ([] ++ ([10] ++ ruT i))
def sp_rule_text (CR CB CJ : Addr) (_ : PySem.W.Frag) : Sp := fun vs H Q _ => ∃ (b j : Addr) (i : Nat), vs = [.ref b, .ref j] ∧ i < 2 ∧ BkO CB CR H b ∧ JbO CJ H j i ∧ Rt H (.str (S (rkT i))) Q
theorem ok_rule_text {f : Addr} {C_Store C_Record C_Rule C_Book C_Job C_StoreReader : Addr} {fd : FuncData} (F : Fun K "rule_text" "rule_text" s_rule_text f fd) (T : Tx mg) (G : Gx K mg) (TC_Store : Tc_Store K C_Store) (TC_Record : Tc_Record K C_Record) (TC_Rule : Tc_Rule K C_Rule) (TC_Book : Tc_Book K C_Book) (TC_Job : Tc_Job K C_Job) (TC_StoreReader : Tc_StoreReader K C_StoreReader) (C_format_rule : Kn.Cl P w K mg base 3 "format_rule" (sp_format_rule C_Rule K)) : FnOk P w K mg base CX0 4 f fd ["book", "job"] (sp_rule_text C_Rule C_Book C_Job K) := by
  refine F.ok sc_rule_text (fun vs H Q E h => ?_) (fun cdv A outer s H vs Q E hr h => ?_)
  · obtain ⟨b, j, i, rfl, _⟩ := h
    rfl
  · obtain ⟨b, j, i, rfl, hi, B, J, q⟩ := h
    refine ⟨_, (pss_one (ps_ret (pe_joined (.cons pe_str (.cons (pe_fmt (pe_fld (pv 1) rfl)) (.cons pe_str (.cons (pe_fmt (Kn.pe_cl C_format_rule hr (by decide) (by rfl) (pa_cons (pe_ix ix_list (pe_fld (pv 0) rfl) (pe_fld (pv 1) rfl) (fun _ _ => rfl)) pa_nil))) .nil))))))), ?_⟩
    obtain ⟨dx, d, r, f, p, xs, hb, hr', hx, R⟩ := B.at hi
    obtain ⟨dx2, a1, b1, hj, ha⟩ := J.ex
    have hlen : (ruT i).length ≤ 100 := by rcases ix2 hi with rfl | rfl <;> decide +kernel
    refine s_ret (ev_is (ev_js (ls := [lit "stem ", [], [10], ruT i]) (.cons (ev_cS (l := lit "stem ") rfl) (.cons (ev_fmtS (ev_fld (ev_var rfl) hj TC_Job.cl TC_Job.na_stem (fj_s i a1 b1)) (by decide)) (.cons (ev_cS (l := [10]) rfl) (.cons (ev_fmtS (ev_call' (ea_cons (ev_op (ev_fld (ev_var rfl) hb TC_Book.cl TC_Book.na_rules (fb_r d r f)) (ev_fld (ev_var rfl) hj TC_Job.cl TC_Job.na_rule (fj_r i a1 b1)) (rv_ixL (sq_of hr') (atI_nat hx))) ea_nil) fun H1 e1 Q q E => ⟨p, i, rfl, hi, R.mono e1, q⟩) (by omega)) .nil)))) (by show 5 + (0 + (1 + ((ruT i).length + 0))) ≤ 100000; omega)) ?_) q
    refine congrArg (fun z => V.str (S z)) ?_
    show lit "stem " ++ ([] ++ ([10] ++ (ruT i ++ []))) = _
    rw [List.append_nil]
    rfl
def sp_rule_key (CR CB CJ : Addr) (_ : PySem.W.Frag) : Sp := fun vs H Q _ => ∃ (b j : Addr) (i : Nat), vs = [.ref b, .ref j] ∧ i < 2 ∧ BkO CB CR H b ∧ JbO CJ H j i ∧ Rt H (.int ((key (rkT i) : Nat) : Int)) Q
theorem ok_rule_key {f : Addr} {C_Store C_Record C_Rule C_Book C_Job C_StoreReader : Addr} {fd : FuncData} (F : Fun K "rule_key" "rule_key" s_rule_key f fd) (T : Tx mg) (G : Gx K mg) (TC_Store : Tc_Store K C_Store) (TC_Record : Tc_Record K C_Record) (TC_Rule : Tc_Rule K C_Rule) (TC_Book : Tc_Book K C_Book) (TC_Job : Tc_Job K C_Job) (TC_StoreReader : Tc_StoreReader K C_StoreReader) (C_rule_text : Kn.Cl P w K mg base 4 "rule_text" (sp_rule_text C_Rule C_Book C_Job K)) (C_content_key : Kn.Cl P w K mg base 1 "content_key" (sp_content_key K)) : FnOk P w K mg base CX0 5 f fd ["book", "job"] (sp_rule_key C_Rule C_Book C_Job K) := by
  refine F.ok sc_rule_key (fun vs H Q E h => ?_) (fun cdv A outer s H vs Q E hr h => ?_)
  · obtain ⟨b, j, i, rfl, _⟩ := h
    rfl
  · obtain ⟨b, j, i, rfl, hi, B, J, q⟩ := h
    refine ⟨_, (pss_one (ps_ret (Kn.pe_cl C_content_key hr (by decide) (by rfl) (pa_cons (Kn.pe_cl C_rule_text hr (by decide) (by rfl) (pa_cons (pv 0) (pa_cons (pv 1) pa_nil))) pa_nil)))), ?_⟩
    exact s_ret (ev_c1 (a := rkT i) (ea_cons (ev_call' (ea_cons (ev_var rfl) (ea_cons (ev_var rfl) ea_nil)) fun H1 e1 Q q E => ⟨b, j, i, rfl, hi, B.mono e1, J.mono e1, q⟩) ea_nil) fun _ _ => (by unfold Txl; rcases ix2 hi with rfl | rfl <;> decide +kernel)) q
end

--SPLIT
section
open Kn.Bi
theorem digB_small {n : Nat} (h : n < 2) : digB n = [48 + n] := by
  unfold digB
  rw [Nat.toDigits_of_lt_base h]
  match n, h with
  | 0, _ => rfl
  | 1, _ => rfl
theorem digB_step {n : Nat} (h : 2 ≤ n) : digB n = digB (n / 2) ++ [48 + n % 2] := by
  have e : Nat.toDigits 2 n = Nat.toDigits 2 (n / 2) ++ [Nat.digitChar (n % 2)] := Nat.toDigits_of_base_le (by decide) h
  unfold digB
  rw [e, List.map_append]
  congr 1
  have : n % 2 < 2 := Nat.mod_lt _ (by decide)
  match n % 2, this with
  | 0, _ => rfl
  | 1, _ => rfl
theorem digB_seven {n : Nat} (h : 128 ≤ n) : digB n = digB (n / 128) ++ pad7 (n % 128) := by
  rw [digB_step (show 2 ≤ n by omega), digB_step (show 2 ≤ n / 2 by omega), digB_step (show 2 ≤ n / 2 / 2 by omega), digB_step (show 2 ≤ n / 2 / 2 / 2 by omega), digB_step (show 2 ≤ n / 2 / 2 / 2 / 2 by omega), digB_step (show 2 ≤ n / 2 / 2 / 2 / 2 / 2 by omega), digB_step (show 2 ≤ n / 2 / 2 / 2 / 2 / 2 / 2 by omega)]
  have e : n / 2 / 2 / 2 / 2 / 2 / 2 / 2 = n / 128 := by omega
  rw [e]
  simp only [List.append_assoc, List.cons_append, List.nil_append]
  unfold pad7
  have e0 : 48 + n / 2 / 2 / 2 / 2 / 2 / 2 % 2 = 48 + n % 128 / 64 % 2 := by omega
  have e1 : 48 + n / 2 / 2 / 2 / 2 / 2 % 2 = 48 + n % 128 / 32 % 2 := by omega
  have e2 : 48 + n / 2 / 2 / 2 / 2 % 2 = 48 + n % 128 / 16 % 2 := by omega
  have e3 : 48 + n / 2 / 2 / 2 % 2 = 48 + n % 128 / 8 % 2 := by omega
  have e4 : 48 + n / 2 / 2 % 2 = 48 + n % 128 / 4 % 2 := by omega
  have e5 : 48 + n / 2 % 2 = 48 + n % 128 / 2 % 2 := by omega
  have e6 : 48 + n % 2 = 48 + n % 128 % 2 := by omega
  rw [e0, e1, e2, e3, e4, e5, e6]
/-- digits to the base 128, the last first; f the most turns -/
def lowF : Nat → Nat → List Nat
  | 0, _ => []
  | f + 1, n => if n = 0 then [] else n % 128 :: lowF f (n / 128)
theorem lowF_snoc : ∀ (k n : Nat), lowF (k + 1) n = if n / 128 ^ k = 0 then lowF k n else lowF k n ++ [n / 128 ^ k % 128]
  | 0, n => by
    show (if n = 0 then [] else n % 128 :: []) = _
    rw [Nat.pow_zero, Nat.div_one]
    rfl
  | k + 1, n => by
    show (if n = 0 then [] else n % 128 :: lowF (k + 1) (n / 128)) = _
    have e : n / 128 / 128 ^ k = n / 128 ^ (k + 1) := by rw [Nat.div_div_eq_div_mul, Nat.pow_succ, Nat.mul_comm]
    by_cases h : n = 0
    · subst h
      rw [if_pos rfl, Nat.zero_div, if_pos rfl]
      rfl
    · rw [if_neg h, lowF_snoc k, e]
      have e2 : lowF (k + 1) n = n % 128 :: lowF k (n / 128) := if_neg h
      rw [e2]
      split <;> rfl
/-- the digits, the highest first -/
def digs (n : Nat) : List Nat := (lowF 700 n).reverse
/-- what the turns leave of the highest -/
theorem low_top : ∀ (f n : Nat), n ≠ 0 → n < 128 ^ f → ∃ t r, (lowF f n).reverse = t :: r ∧ (1 ≤ t ∧ t < 128) ∧ (∀ d ∈ r, d < 128) ∧ digB n = digB t ++ (r.map pad7).flatten
  | 0, n, h0, h => absurd (by rw [Nat.pow_zero] at h; omega) h0
  | f + 1, n, h0, h => by
    have e2 : lowF (f + 1) n = n % 128 :: lowF f (n / 128) := if_neg h0
    rw [e2, List.reverse_cons]
    by_cases hs : n < 128
    · have e : n / 128 = 0 := by omega
      have e3 : lowF f 0 = [] := by
        cases f with
        | zero => rfl
        | succ f => rfl
      rw [e, e3]
      refine ⟨n, [], ?_, ⟨by omega, hs⟩, (fun d hd => nomatch hd), ?_⟩
      · rw [Nat.mod_eq_of_lt hs]
        rfl
      · rw [List.map_nil, List.flatten_nil, List.append_nil]
    · obtain ⟨t, r, e1, ht, hr, hd⟩ := low_top f (n / 128) (by omega) (by rw [Nat.pow_succ] at h; omega)
      refine ⟨t, r ++ [n % 128], by rw [e1, List.cons_append], ht, fun d hd => ?_, ?_⟩
      · rcases List.mem_append.mp hd with z | z
        · exact hr d z
        · rw [List.mem_singleton.mp z]
          exact Nat.mod_lt _ (by decide)
      · rw [digB_seven (by omega), hd, List.map_append, List.flatten_append, List.append_assoc]
        simp
theorem pad7_len (d : Nat) : (pad7 d).length = 7 := rfl
theorem flat_len : ∀ r : List Nat, ((r.map pad7).flatten).length = 7 * r.length
  | [] => rfl
  | d :: r => by
    rw [List.map_cons, List.flatten_cons, List.length_append, flat_len r, pad7_len, List.length_cons]
    omega
theorem top_bits : ∀ t, t < 128 → 1 ≤ t → (decide ((digB t).length % 7 = 1) = decide (t = 1)) := by decide +kernel
theorem bin_pad : ∀ d, d < 128 → binNum (pad7 d) = d := by decide +kernel
theorem isbin_pad (d : Nat) : ∀ c ∈ pad7 d, IsBin c := fun c hc => by
  unfold pad7 at hc
  simp only [List.mem_cons, List.not_mem_nil, or_false] at hc
  unfold IsBin
  omega
theorem digB_one : digB 1 = [49] := by decide +kernel
theorem flat_drop : ∀ (r : List Nat) (i : Nat) (d : Nat), r[i]? = some d → (((r.map pad7).flatten).drop (7 * i)).take 7 = pad7 d
  | [], i, d, h => by simp at h
  | x :: r, 0, d, h => by
    have e : x = d := Option.some.inj h
    subst e
    rfl
  | x :: r, i + 1, d, h => by
    have e : 7 * (i + 1) = (pad7 x).length + 7 * i := by rw [pad7_len]; omega
    rw [List.map_cons, List.flatten_cons, e, List.drop_append, Nat.add_sub_cancel_left]
    rw [List.drop_eq_nil_of_le (by omega), List.nil_append]
    exact flat_drop r i d h
/-! ### the text of a key -/
/-- a number's digits to the base 128, the highest first: the highest and the others -/
structure Dg (n t : Nat) (r : List Nat) : Prop where
  rev : (lowF 700 n).reverse = t :: r
  top : 1 ≤ t ∧ t < 128
  all : ∀ d ∈ r, d < 128
  bits : digB n = digB t ++ (r.map pad7).flatten
theorem dg_of {n : Nat} (h0 : n ≠ 0) (h : n < 128 ^ 700) : ∃ t r, Dg n t r := by
  obtain ⟨t, r, h1, h2, h3, h4⟩ := low_top 700 n h0 h
  exact ⟨t, r, h1, h2, h3, h4⟩
theorem Dg.len {n t : Nat} {r : List Nat} (D : Dg n t r) : (digB n).length = (digB t).length + 7 * r.length := by
  rw [D.bits, List.length_append, flat_len]
theorem Dg.rem {n t : Nat} {r : List Nat} (D : Dg n t r) : (digB n).length % 7 = 1 ↔ t = 1 := by
  have h := top_bits t D.top.2 D.top.1
  have e : (digB n).length % 7 = (digB t).length % 7 := by
    rw [D.len]
    omega
  rw [e]
  exact decide_eq_decide.mp h
theorem Dg.len1 {n : Nat} {r : List Nat} (D : Dg n 1 r) : (digB n).length = 1 + 7 * r.length := by
  rw [D.len, digB_one]
  rfl
theorem Dg.cut {n : Nat} {r : List Nat} (D : Dg n 1 r) {i d : Nat} (h : r[i]? = some d) : ((digB n).drop (1 + 7 * i)).take 7 = pad7 d := by
  rw [D.bits, digB_one, show 1 + 7 * i = ([49] : List Nat).length + 7 * i from rfl, List.drop_append, Nat.add_sub_cancel_left, List.drop_eq_nil_of_le (by omega), List.nil_append]
  exact flat_drop r i d h
theorem low_len : ∀ f n, (lowF f n).length ≤ f
  | 0, _ => Nat.le_refl _
  | f + 1, n => by
    show (if n = 0 then [] else n % 128 :: lowF f (n / 128)).length ≤ f + 1
    split
    · exact Nat.zero_le _
    · rw [List.length_cons]
      have := low_len f (n / 128)
      omega
theorem Dg.rlen {n t : Nat} {r : List Nat} (D : Dg n t r) : r.length ≤ 699 := by
  have h := congrArg List.length D.rev
  rw [List.length_reverse, List.length_cons] at h
  have := low_len 700 n
  omega
theorem digB_top_len : ∀ t, t < 128 → (digB t).length ≤ 7 := by decide +kernel

variable {P : Program} {w : World} {K : PySem.W.Frag} {mg : Str → Option Value} {base : Heap}
theorem cutS_nat (l : List Nat) (a b : Nat) : cutS (S l) (some (a : Int)) (some (b : Int)) = S ((l.drop a).take (b - a)) := by
  unfold cutS
  rw [HT.sIx_nat, HT.sIx_nat]
  exact congrArg S (cut_nat l a b)
/-! ### the sign of a code -/
def sBef : List Nat := (Str.ofString " !\"#$").cps.toList
def sBeh : List Nat := (Str.ofString "&'()*+,-./0123456789:;<=>?@ABCDEFGHIJKLMNOPQRSTUVWXYZ[\\]^_`abcdefghijklmnopqrstuvwxyz{|}~").cps.toList
theorem at_bef : ∀ c : Nat, c < 37 → 32 ≤ c → atI sBef ((c : Int) - 32) = some c := by decide +kernel
theorem at_beh : ∀ c : Nat, c < 127 → 38 ≤ c → atI sBeh ((c : Int) - 37 - 1) = some c := by decide +kernel
theorem isCode_cases {c : Nat} (h : isCode (c : Int) = true) : c = 10 ∨ (32 ≤ c ∧ c < 37) ∨ (38 ≤ c ∧ c < 127) := by
  unfold isCode at h
  rw [Bool.or_eq_true, Bool.and_eq_true, Bool.and_eq_true, Bool.not_eq_true', decide_eq_true_eq, decide_eq_true_eq, decide_eq_true_eq, decide_eq_false_iff_not] at h
  omega
def sp__sign (_ : PySem.W.Frag) : Sp := sp1 (fun c : Nat => [.int (c : Int)]) (fun c _ => isCode (c : Int) = true) (fun c => .str (S [c]))
theorem ok__sign {f : Addr} {C_Store C_Record C_Rule C_Book C_Job C_StoreReader : Addr} {fd : FuncData} (F : Fun K "_sign" "_sign" s__sign f fd) (T : Tx mg) (G : Gx K mg) (TC_Store : Tc_Store K C_Store) (TC_Record : Tc_Record K C_Record) (TC_Rule : Tc_Rule K C_Rule) (TC_Book : Tc_Book K C_Book) (TC_Job : Tc_Job K C_Job) (TC_StoreReader : Tc_StoreReader K C_StoreReader)  : FnOk P w K mg base CX0 1 f fd ["code"] (sp__sign K) := by
  refine F.ok sc__sign (fun vs H Q E h => ?_) (fun cdv A outer s H vs Q E hr h => ?_)
  · obtain ⟨n, rfl, _⟩ := h
    rfl
  · obtain ⟨c, rfl, hc, q⟩ := h
    refine ⟨_, (pss_cons (ps_if (pt_cmpR op_eq (pv 0) (C8.pe_gc (by rfl) T.c_NEWLINE) (nomark _)) (pss_one (ps_ret pe_str)) pss_nil)
      (pss_cons (ps_if (pt_cmpR op_lt (pv 0) (C8.pe_gc (by rfl) T.c_PERCENT) (nomark _)) (pss_one (ps_ret (pe_ix ix_str (C8.pe_gc (by rfl) T.c_SIGNS_BEFORE) (pe_op op_sub (pv 0) (C8.pe_gc (by rfl) T.c_SPACE)) (fun _ _ => rfl)))) pss_nil)
      (pss_one (ps_ret (pe_ix ix_str (C8.pe_gc (by rfl) T.c_SIGNS_BEHIND) (pe_op op_sub (pe_op op_sub (pv 0) (C8.pe_gc (by rfl) T.c_PERCENT)) pe_int) (fun _ _ => rfl)))))), ?_⟩
    have h3 := isCode_cases hc
    refine q_when (b := decide ((c : Int) = 10)) (by walk_at "ev") (fun hb H1 e1 => ?_) (fun hb H1 e1 => ?_)
    · have e : c = 10 := by
        have := of_decide_eq_true hb
        omega
      subst e
      exact s_ret (ev_cS (l := [10]) rfl) fun H2 e2 => q H2 (e1.trans e2)
    · have hn := of_decide_eq_false hb
      refine q_when (b := decide ((c : Int) < 37)) (by walk_at "ev") (fun hb H2 e2 => ?_) (fun hb H2 e2 => ?_)
      · have hl := of_decide_eq_true hb
        exact s_ret (ev_idxS (ev_cS (l := sBef) rfl) (by walk_at "ev") (by decide +kernel) (at_bef c (by omega) (by omega))) fun H3 e3 => q H3 ((e1.trans e2).trans e3)
      · have hl := of_decide_eq_false hb
        exact s_ret (ev_idxS (ev_cS (l := sBeh) rfl) (by walk_at "ev") (by decide +kernel) (at_beh c (by omega) (by omega))) fun H3 e3 => q H3 ((e1.trans e2).trans e3)
/-! ### the codes of a key -/
def most : Nat := 128 ^ 700
def sp__codes (_ : PySem.W.Frag) : Sp := fun vs H Q _ => ∃ n : Int, vs = [.int n] ∧ n < (most : Int) ∧ (n < 1 → Rt H .non Q) ∧ (∀ (m t : Nat) (r : List Nat), n = (m : Int) → Dg m t r → t ≠ 1 → Rt H .non Q) ∧
  (∀ (m : Nat) (r : List Nat), n = (m : Int) → Dg m 1 r → Rl H (r.map fun d : Nat => V.int (d : Int)) Q)
theorem ok__codes {f : Addr} {C_Store C_Record C_Rule C_Book C_Job C_StoreReader : Addr} {fd : FuncData} (F : Fun K "_codes" "_codes" s__codes f fd) (T : Tx mg) (G : Gx K mg) (TC_Store : Tc_Store K C_Store) (TC_Record : Tc_Record K C_Record) (TC_Rule : Tc_Rule K C_Rule) (TC_Book : Tc_Book K C_Book) (TC_Job : Tc_Job K C_Job) (TC_StoreReader : Tc_StoreReader K C_StoreReader)  (hdig : PySem.W.nsIn K cStatics "sys.int_max_str_digits" = some none) : FnOk P w K mg base CX0 1 f fd ["key"] (sp__codes K) := by
  refine F.ok sc__codes (fun vs H Q E h => ?_) (fun cdv A outer s H vs Q E hr h => ?_)
  · obtain ⟨n, rfl, _⟩ := h
    rfl
  · obtain ⟨n, rfl, hb, h1, h2, h3⟩ := h
    refine ⟨_, (pss_cons (ps_if (pt_cmpR op_lt (pv 0) pe_int (nomark _)) (pss_one (ps_ret pe_non)) pss_nil)
      (pss_cons (ps_set (i := 1) sc__codes.nd rfl (Or.inr rfl) (pe_joined1 (Kn.Bi.pe_fmtB (pv 0) (pe_joined1 pe_str))))
      (pss_cons (ps_if (pt_cmpR op_ne (pe_op op_mod (pe_callB Kn.cr_lenStr (by rfl) T.b_len PySem.boot_len (pa_cons (pv 1) pa_nil)) (C8.pe_gc (by rfl) T.c_DIGIT_BITS)) pe_int (nomark _)) (pss_one (ps_ret pe_non)) pss_nil)
      (pss_one (ps_ret (pe_lc (own := [("at", 2)]) rfl sc__codes.nd (pi_range3 rfl T.b_range (pa_cons pe_int (pa_cons (pe_callB Kn.cr_lenStr (by rfl) T.b_len PySem.boot_len (pa_cons (pv 1) pa_nil)) (pa_cons (C8.pe_gc (by rfl) T.c_DIGIT_BITS) pa_nil)))) (blkOk_by (own := [("at", 2)]) (N := N__codes) (sc := defScope s__codes) (by decide +kernel)) (fun _ _ _ _ _ => pg_name (i := 2) sc__codes.nd rfl (Or.inl rfl)) (fun _ _ _ _ _ => pts_nil) (fun _ _ _ _ _ => (pe_callTy (Kn.Bi.cr_intBinL hdig) (by rfl) T.b_int (by decide +kernel) (pa_cons (pe_slice sl_str (pv 1) (po_some (pv 2)) (po_some (pe_op op_add (pv 2) (C8.pe_gc (by rfl) T.c_DIGIT_BITS)))) (pa_cons pe_int pa_nil)))))))))), ?_⟩
    refine q_when (b := decide (n < 1)) (by walk_at "ev") (fun hb1 H1 e1 => ?_) (fun hb1 H1 e1 => ?_)
    · exact s_ret ev_c fun H2 e2 => h1 (of_decide_eq_true hb1) H2 (e1.trans e2)
    · have hn1 := of_decide_eq_false hb1
      obtain ⟨m, rfl⟩ := Int.eq_ofNat_of_zero_le (show 0 ≤ n by omega)
      obtain ⟨t, r, D⟩ := dg_of (n := m) (by omega) (by unfold most at hb; omega)
      have hr := D.rlen
      have hlen := D.len
      have ht := digB_top_len t D.top.2
      have rem := D.rem
      replace h2 := h2 m t r rfl D
      replace h3 := fun (e : t = 1) => h3 m r rfl (by subst e; exact D)
      refine q_asg (v := .str (S (digB m))) (ev_fmtB (ev_var rfl) (by omega)) fun H2 e2 => ?_
      refine q_when (b := !decide (((digB m).length : Int) % 7 = 1)) (et_test (ev_op (ev_op (ev_cb (ea_cons (ev_var rfl) ea_nil) (rc_lenS (by omega))) ev_c (rv_mod (by decide))) ev_c rv_neI)) (fun hb2 H3 e3 => ?_) (fun hb2 H3 e3 => ?_)
      · refine s_ret ev_c fun H4 e4 => h2 (fun z => ?_) H4 (((e1.trans e2).trans e3).trans e4)
        have := rem.mpr z
        rw [decide_eq_true (show ((digB m).length : Int) % 7 = 1 by omega)] at hb2
        cases hb2
      · have e : t = 1 := by
          refine rem.mp ?_
          by_cases z : ((digB m).length : Int) % 7 = 1
          · omega
          · rw [decide_eq_false z] at hb2
            cases hb2
        subst e
        have hl1 := D.len1
        refine s_retL (xs := r.map fun d : Nat => V.int (d : Int)) ?_ fun p H4 np e4 hp => h3 rfl p H4 (fresh_back ((e1.trans e2).trans e3) np) (((e1.trans e2).trans e3).trans e4) hp
        rw [← given_all (d := V.non)]
        refine el_lcR7 (c := r.length) (fun i => (r[i]?.map fun d : Nat => V.int (d : Int)).getD .non) (ea_cons ev_c (ea_cons (ev_is (ev_cb (ea_cons (ev_var rfl) ea_nil) (rc_lenS (by omega))) (by rw [hl1])) (ea_cons ev_c ea_nil))) (by omega) (fun _ => rfl) fun i H4 e4 hi => ?_
        have hget := List.getElem?_eq_getElem hi
        have hcut := D.cut hget
        have hd := D.all _ (List.getElem_mem hi)
        show Ev _ _ _ ((r[i]?.map fun d : Nat => V.int (d : Int)).getD .non)
        rw [hget]
        generalize r[i] = d at hcut hd
        refine ev_is (ev_intBinL (l := pad7 d) (ea_cons (ev_is (ev_slS (ev_var rfl) (eo_some (ev_var rfl)) (eo_some (ev_op (ev_var rfl) ev_c rv_I0)) (by omega)) ?_) (ea_cons ev_c ea_nil)) (by unfold pad7; simp) (isbin_pad d)) (by rw [bin_pad d hd]; rfl)
        rw [show (1 + ((i : Nat) : Int) * 7) = ((1 + 7 * i : Nat) : Int) by omega, show ((1 + 7 * i : Nat) : Int) + 7 = ((1 + 7 * i + 7 : Nat) : Int) by omega, cutS_nat, Nat.add_sub_cancel_left, hcut]
theorem codes_good {H : Hp} {m : Nat} {r : List Nat} (hb : (m : Int) < (most : Int)) (D : Dg m 1 r) : ∀ H1, Ex H H1 → ∀ Q : VK, Rl H1 (r.map fun d : Nat => V.int (d : Int)) Q → ∀ E, sp__codes K [.int (m : Int)] H1 Q E := fun H1 e Q q E => by
  refine ⟨(m : Int), rfl, hb, fun h => ?_, fun m2 t r2 e2 D2 h => ?_, fun m2 r2 e2 D2 => ?_⟩
  · exfalso
    have : m = 0 := by omega
    subst this
    have z := D.rev
    cases z
  · exfalso
    have : m = m2 := by omega
    subst this
    exact h (List.cons.inj (D.rev.symm.trans D2.rev)).1.symm
  · have : m = m2 := by omega
    subst this
    have e3 := (List.cons.inj (D.rev.symm.trans D2.rev)).2
    subst e3
    exact q
theorem ones_sum : ∀ r : List Nat, (r.map ((fun x : List Nat => x.length) ∘ fun c : Nat => [c])).sum = r.length
  | [] => rfl
  | x :: r => by
    rw [List.map_cons, List.sum_cons, ones_sum r, List.length_cons]
    show 1 + _ = _
    omega
theorem ones_flat : ∀ r : List Nat, (r.map fun c : Nat => [c]).flatten = r
  | [] => rfl
  | x :: r => by
    rw [List.map_cons, List.flatten_cons, ones_flat r]
    rfl

/-- a text of the store -/
def TxK (l : List Nat) : Prop := l.length ≤ 690 ∧ okText l = true
theorem TxK.code {l : List Nat} (h : TxK l) {c : Nat} (hc : c ∈ l) : isCode (c : Int) = true := List.all_eq_true.mp h.2 c hc
theorem TxK.lt {l : List Nat} (h : TxK l) {c : Nat} (hc : c ∈ l) : c < 128 := by
  have := isCode_cases (h.code hc)
  omega
theorem TxK.txl {l : List Nat} (h : TxK l) : Txl l := ⟨by have := h.1; omega, fun c hc => h.lt hc⟩
theorem low_zero : ∀ f, lowF f 0 = []
  | 0 => rfl
  | f + 1 => rfl
theorem key_snoc (l : List Nat) (c : Nat) : key (l ++ [c]) = key l * 128 + c := by
  unfold key
  rw [List.foldl_append]
  rfl
theorem key_pos' : ∀ r : List Nat, 1 ≤ key r.reverse
  | [] => Nat.le_refl 1
  | c :: r => by
    rw [List.reverse_cons, key_snoc]
    have := key_pos' r
    omega
theorem key_lt' : ∀ r : List Nat, (∀ c ∈ r, c < 128) → key r.reverse < 128 ^ (r.length + 1)
  | [], _ => by decide
  | c :: r, h => by
    rw [List.reverse_cons, key_snoc, List.length_cons, Nat.pow_succ]
    have h1 := key_lt' r fun x hx => h x (List.mem_cons_of_mem _ hx)
    have h2 := h c List.mem_cons_self
    omega
theorem low_key : ∀ (r : List Nat) (f : Nat), (∀ c ∈ r, c < 128) → r.length < f → lowF f (key r.reverse) = r ++ [1]
  | [], 0, _, h => absurd h (Nat.not_lt_zero _)
  | [], f + 1, _, _ => by
    rw [show key ([] : List Nat).reverse = 1 from rfl]
    unfold lowF
    rw [if_neg (by decide), show 1 / 128 = 0 from rfl, low_zero]
    rfl
  | c :: r, 0, _, h => absurd h (Nat.not_lt_zero _)
  | c :: r, f + 1, hc, h => by
    have h1 := hc c List.mem_cons_self
    have ih := low_key r f (fun x hx => hc x (List.mem_cons_of_mem _ hx)) (by rw [List.length_cons] at h; omega)
    have hp := key_pos' r
    rw [List.reverse_cons, key_snoc]
    unfold lowF
    rw [if_neg (by omega), show (key r.reverse * 128 + c) % 128 = c by omega, show (key r.reverse * 128 + c) / 128 = key r.reverse by omega, ih]
    rfl
theorem key_dg {l : List Nat} (h : TxK l) : key l < most ∧ Dg (key l) 1 l := by
  have hc : ∀ c ∈ l.reverse, c < 128 := fun c hc => h.lt (List.mem_reverse.mp hc)
  have hlen := h.1
  have h1 := key_lt' l.reverse hc
  have h2 := key_pos' l.reverse
  have h3 := low_key l.reverse 700 hc (by rw [List.length_reverse]; omega)
  rw [List.reverse_reverse] at h1 h2 h3
  rw [List.length_reverse] at h1
  have h4 : 128 ^ (l.length + 1) ≤ 128 ^ 700 := Nat.pow_le_pow_right (by decide) (by omega)
  have h5 : key l < 128 ^ 700 := Nat.lt_of_lt_of_le h1 h4
  obtain ⟨t, r, D⟩ := dg_of (n := key l) (by omega) h5
  have z := D.rev
  rw [h3, List.reverse_append, List.reverse_reverse] at z
  injection z with z1 z2
  subst z1 z2
  exact ⟨h5, D⟩
def sp_key_text (_ : PySem.W.Frag) : Sp := sp1 (fun l : List Nat => [.int ((key l : Nat) : Int)]) (fun l _ => TxK l) (fun l => .str (S l))
theorem ok_key_text {f : Addr} {C_Store C_Record C_Rule C_Book C_Job C_StoreReader : Addr} {fd : FuncData} (F : Fun K "key_text" "key_text" s_key_text f fd) (T : Tx mg) (G : Gx K mg) (TC_Store : Tc_Store K C_Store) (TC_Record : Tc_Record K C_Record) (TC_Rule : Tc_Rule K C_Rule) (TC_Book : Tc_Book K C_Book) (TC_Job : Tc_Job K C_Job) (TC_StoreReader : Tc_StoreReader K C_StoreReader) (C__codes : Kn.Cl P w K mg base 1 "_codes" (sp__codes K)) (C__is_code : Kn.Cl P w K mg base 1 "_is_code" (sp__is_code K)) (C__sign : Kn.Cl P w K mg base 1 "_sign" (sp__sign K)) : FnOk P w K mg base CX0 2 f fd ["key"] (sp_key_text K) := by
  refine F.ok sc_key_text (fun vs H Q E h => ?_) (fun cdv A outer s H vs Q E hr h => ?_)
  · obtain ⟨l, rfl, _⟩ := h
    rfl
  · obtain ⟨r, rfl, hT, q⟩ := h
    refine ⟨_, (pss_cons (ps_set (i := 1) sc_key_text.nd rfl (Or.inl rfl) (Kn.pe_cl C__codes hr (by decide) (by rfl) (pa_cons (pv 0) pa_nil)))
      (pss_cons (ps_if (PW.pt (pw_or (pt_cmpR op_isN1 (pv 1) pe_non (nomark _)) (pw_or1 (pt_not (pt_val (pe_callB (cr_all rfl) (by rfl) T.b_all (by decide +kernel) (pa_cons (pe_lc (own := [("code", 2)]) rfl sc_key_text.nd (pi_list (pv 1)) (blkOk_by (own := [("code", 2)]) (N := N_key_text) (sc := defScope s_key_text) (by decide +kernel)) (fun _ _ _ _ _ => pg_name (i := 2) sc_key_text.nd rfl (Or.inl rfl)) (fun _ _ _ _ _ => pts_nil) (fun _ _ _ _ _ => (Kn.pe_cl C__is_code hr (by decide) (by rfl) (pa_cons (pv 2) pa_nil)))) pa_nil))))))) (pss_one Kw.ps_never) pss_nil)
      (pss_one (ps_ret (Kn.pe_joinN (pe_join pe_str (pe_lc (own := [("code", 2)]) rfl sc_key_text.nd (pi_list (pv 1)) (blkOk_by (own := [("code", 2)]) (N := N_key_text) (sc := defScope s_key_text) (by decide +kernel)) (fun _ _ _ _ _ => pg_name (i := 2) sc_key_text.nd rfl (Or.inl rfl)) (fun _ _ _ _ _ => pts_nil) (fun _ _ _ _ _ => (Kn.pe_cl C__sign hr (by decide) (by rfl) (pa_cons (pv 2) pa_nil)))))))))), ?_⟩
    obtain ⟨hb, D⟩ := key_dg hT
    have hb : ((key r : Nat) : Int) < (most : Int) := by omega
    have hl := hT.1
    refine q_asgL (el_call' (ea_cons (ev_var rfl) ea_nil) (codes_good hb D)) fun p H1 np e1 hp => ?_
    refine q_when (b := false) (et_is (et_or (a := false) (b := false) (et_is (et_isN (ev_var rfl)) rfl) fun _ => et_not (a := true) (et_B (ev_is (ev_all (p := fun c : Nat => isCode (c : Int)) (xs := r) (el_lcM (g := fun c : Nat => V.int (c : Int)) (ev_var rfl) (sq_of hp) (by omega) (fun _ => rfl) fun c hc H2 e2 => ev_c1 (a := (c : Int)) (ea_cons (ev_var rfl) ea_nil) fun _ _ => trivial)) (congrArg V.bl hT.2)))) rfl) (fun z => nomatch z) fun _ H2 e2 => ?_
    refine s_ret (v := .str (S r)) (ev_is (ev_join (s := []) (ys := r.map fun c => [c]) (ev_cS (l := []) rfl) ?_ ?_) ?_) fun H3 e3 => q H3 ((e1.trans e2).trans e3)
    · rw [List.map_map]
      exact el_lcM (g := fun c : Nat => V.int (c : Int)) (ev_var rfl) (sq_of (e2 _ _ hp)) (by omega) (fun _ => rfl) fun c hc H3 e3 => ev_c1 (a := c) (ea_cons (ev_var rfl) ea_nil) fun _ _ => hT.code hc
    · rw [List.map_map, List.length_map, List.length_nil, Nat.mul_zero, Nat.add_zero]
      have z := ones_sum r
      omega
    · rw [Kn.join_nil, ones_flat r]
end

/-! ### a store: its texts, its rows -/
def RowV (H : Hp) (v : V) : Prop := v = .non ∨ ∃ (a : Addr) (l m : List Nat), v = .ref a ∧ H a = some (.tup [.int ((key l : Nat) : Int), .str (S m)]) ∧ TxK l ∧ TxK m
theorem RowV.keep {H H1 : Hp} {v : V} (h : RowV H v) (e : ∀ b xs, H b = some (.tup xs) → H1 b = some (.tup xs)) : RowV H1 v := by
  rcases h with h | ⟨a, k, x, h, ha, t1, t2⟩
  · exact .inl h
  · exact .inr ⟨a, k, x, h, e _ _ ha, t1, t2⟩
def Good (kvs : List (Key × V)) : Prop := (∀ x ∈ kvs, ∃ (l m : List Nat), x = (Sum.inl ((key l : Nat) : Int), .str (S m)) ∧ TxK l ∧ TxK m) ∧ (kvs.map (·.1)).Nodup
theorem good_nil : Good [] := ⟨(fun _ h => nomatch h), List.nodup_nil⟩
theorem keysK (kvs : List (Key × V)) (k : Key) (v : V) : (putK kvs k v).map (·.1) = kvs.map (·.1) ∨ (k ∉ kvs.map (·.1) ∧ (putK kvs k v).map (·.1) = kvs.map (·.1) ++ [k]) := by
  unfold putK
  split
  · left
    rw [List.map_map]
    refine List.map_congr_left fun x hx => ?_
    show (if x.1 = k then (x.1, v) else x).1 = x.1
    split <;> rfl
  · next h =>
    refine .inr ⟨fun hm => h ?_, by rw [List.map_append]; rfl⟩
    obtain ⟨x, hx, e⟩ := List.mem_map.mp hm
    exact List.any_eq_true.mpr ⟨x, hx, decide_eq_true e⟩
theorem putK_len (kvs : List (Key × V)) (k : Key) (v : V) : (putK kvs k v).length ≤ kvs.length + 1 := by
  unfold putK
  split
  · rw [List.length_map]; omega
  · rw [List.length_append]; exact Nat.le_refl _
theorem Good.put {kvs : List (Key × V)} (g : Good kvs) {k s : List Nat} (hk : TxK k) (hs : TxK s) : Good (putK kvs (Sum.inl ((key k : Nat) : Int)) (.str (S s))) := by
  refine ⟨fun x hx => ?_, ?_⟩
  · unfold putK at hx
    split at hx
    · obtain ⟨y, hy, rfl⟩ := List.mem_map.mp hx
      obtain ⟨i, m, rfl, t1, t2⟩ := g.1 y hy
      split
      · exact ⟨i, s, rfl, t1, hs⟩
      · exact ⟨i, m, rfl, t1, t2⟩
    · rcases List.mem_append.mp hx with h | h
      · exact g.1 x h
      · rw [List.mem_singleton.mp h]
        exact ⟨k, s, rfl, hk, hs⟩
  · rcases keysK kvs (Sum.inl ((key k : Nat) : Int)) (.str (S s)) with z | ⟨h, z⟩
    · rw [z]
      exact g.2
    · rw [z]
      refine List.nodup_append.mpr ⟨g.2, List.pairwise_singleton _ _, fun a ha b hb z => ?_⟩
      rw [List.mem_singleton.mp hb] at z
      exact h (z ▸ ha)
theorem Good.drop {kvs : List (Key × V)} (g : Good kvs) {k : Key} : Good (dropK kvs k) := ⟨fun x hx => g.1 x (List.mem_filter.mp hx).1, List.Sublist.nodup (List.Sublist.map _ List.filter_sublist) g.2⟩
theorem Good.keys {kvs : List (Key × V)} (g : Good kvs) : ∃ ks : List Int, kvs.map (·.1) = ks.map Sum.inl := by
  have z : ∀ kvs : List (Key × V), (∀ x ∈ kvs, ∃ (l m : List Nat), x = (Sum.inl ((key l : Nat) : Int), .str (S m)) ∧ TxK l ∧ TxK m) → ∃ ks : List Int, kvs.map (·.1) = ks.map Sum.inl := fun kvs => by
    induction kvs with
    | nil => exact fun _ => ⟨[], rfl⟩
    | cons x r ih =>
      intro h
      obtain ⟨i, l, rfl, _⟩ := h x List.mem_cons_self
      obtain ⟨ks, hk⟩ := ih fun y hy => h y (List.mem_cons_of_mem _ hy)
      exact ⟨((key i : Nat) : Int) :: ks, by rw [List.map_cons, hk]; rfl⟩
  exact z kvs g.1
def fldS (d r : Addr) : List (Str × V) := putF "_rows" (.ref r) (putF "_texts" (.ref d) (putF "journal" .non []))
theorem fld_r (d r : Addr) : (fldS d r).lookup ("_rows" : Str) = some (.ref r) := by rfl
theorem fld_t (d r : Addr) : (fldS d r).lookup ("_texts" : Str) = some (.ref d) := by rfl
theorem fld_j (d r : Addr) : (fldS d r).lookup ("journal" : Str) = some .non := by rfl
theorem fld_no (d r : Addr) {m : Str} (h1 : ¬ m = "_rows") (h2 : ¬ m = "_texts") (h3 : ¬ m = "journal") : (fldS d r).lookup m = none := by
  unfold fldS
  rw [lookup_putF, if_neg h1, lookup_putF, if_neg h2, lookup_putF, if_neg h3]
  rfl
structure Sto (C : Addr) (H : Hp) (p d r : Addr) (kvs : List (Key × V)) (xs : List V) : Prop where
  ob : ∃ dx, H p = some (.ins C dx (fldS d r))
  dc : H d = some (.dK kvs)
  rc : H r = some (.lst xs)
  rv : ∀ x ∈ xs, RowV H x
theorem Sto.mono {C : Addr} {H H1 : Hp} {p d r : Addr} {kvs : List (Key × V)} {xs : List V} (T : Sto C H p d r kvs xs) (e : Ex H H1) : Sto C H1 p d r kvs xs := by
  obtain ⟨⟨dx, h1⟩, h2, h3, h4⟩ := T
  exact ⟨⟨dx, e _ _ h1⟩, e _ _ h2, e _ _ h3, fun x hx => (h4 x hx).keep fun b ys hb => e _ _ hb⟩
theorem Sto.dr {C : Addr} {H : Hp} {p d r : Addr} {kvs : List (Key × V)} {xs : List V} (T : Sto C H p d r kvs xs) : d ≠ r := ne_of T.dc T.rc (by intro z; cases z)
theorem Sto.updD {C : Addr} {H : Hp} {p d r : Addr} {kvs kvs' : List (Key × V)} {xs : List V} (T : Sto C H p d r kvs xs) : Sto C (L2.upd H d (.dK kvs')) p d r kvs' xs := by
  have ne := T.dr
  obtain ⟨⟨dx, h1⟩, h2, h3, h4⟩ := T
  exact ⟨⟨dx, by rw [upd_ne (ne_of h1 h2 (by intro z; cases z))]; exact h1⟩, upd_same, by rw [upd_ne ne.symm]; exact h3, fun x hx => (h4 x hx).keep fun b ys hb => by rw [upd_ne (ne_of hb h2 (by intro z; cases z))]; exact hb⟩
theorem Sto.updR {C : Addr} {H : Hp} {p d r : Addr} {kvs : List (Key × V)} {xs ys : List V} (T : Sto C H p d r kvs xs) (h : ∀ y ∈ ys, RowV H y) : Sto C (L2.upd H r (.lst ys)) p d r kvs ys := by
  have ne := T.dr
  obtain ⟨⟨dx, h1⟩, h2, h3, h4⟩ := T
  exact ⟨⟨dx, by rw [upd_ne (ne_of h1 h3 (by intro z; cases z))]; exact h1⟩, by rw [upd_ne ne]; exact h2, upd_same, fun x hx => (h x hx).keep fun b zs hb => by rw [upd_ne (ne_of hb h3 (by intro z; cases z))]; exact hb⟩
def Keeps (H H' : Hp) (d : Addr) : Prop := ∀ b o, H b = some o → b ≠ d → H' b = some o
theorem nb {b : Bool} (h : (!b) = true) : b = false := by cases b <;> simp_all
theorem nf {b : Bool} (h : (!b) = false) : b = true := by cases b <;> simp_all
section
variable {P : Program} {w : World} {K : PySem.W.Frag} {mg : Str → Option Value} {base : Heap}
def sp_Store___init__ (C : Addr) (_ : PySem.W.Frag) : Sp := fun vs H Q _ => ∃ (p dx : Addr), vs = [.ref p, .non] ∧ H p = some (.ins C dx []) ∧ ∀ (d r : Addr) (H' : Hp), H d = none → H r = none → Sto C H' p d r [] [] → (∀ b o, H b = some o → b ≠ p → H' b = some o) → Q .non H'
theorem ok_Store___init__ {f : Addr} {C_Store C_Record C_Rule C_Book C_Job C_StoreReader : Addr} {fd : FuncData} (F : FunD K "__init__" "Store.__init__" (defArgs s_Store___init__) (defBody s_Store___init__) (defScope s_Store___init__) [.non] [] f fd) (T : Tx mg) (G : Gx K mg) (TC_Store : Tc_Store K C_Store) (TC_Record : Tc_Record K C_Record) (TC_Rule : Tc_Rule K C_Rule) (TC_Book : Tc_Book K C_Book) (TC_Job : Tc_Job K C_Job) (TC_StoreReader : Tc_StoreReader K C_StoreReader)  : FnOk P w K mg base CX0 1 f fd ["self", "journal"] (sp_Store___init__ C_Store K) := by
  refine F.ok sc_Store___init__ (fun vs H Q E h => ?_) (fun cdv A outer s H vs Q E hr h => ?_)
  · obtain ⟨p, dx, rfl, _⟩ := h
    rfl
  · obtain ⟨p, dx, rfl, hp, k⟩ := h
    refine ⟨_, (pss_cons (ps_fld (pv 0) (pv 1) rfl)
      (pss_cons (ps_fld (pv 0) pe_dnewK rfl)
      (pss_one (ps_fld (pv 0) (pe_lst pa_nil) rfl)))), ?_⟩
    refine ⟨_, rfl, _, rfl, p, C_Store, dx, [], rfl, hp, TC_Store.cl, TC_Store.na_journal, (by show 0 < 1000; decide), ?_⟩
    intro d hd
    have npd : p ≠ d := fun z => by rw [z, upd_same] at hd; cases hd
    rw [upd_ne npd.symm] at hd
    refine ⟨_, rfl, p, C_Store, dx, _, rfl, (by rw [upd_ne npd]; exact upd_same), TC_Store.cl, TC_Store.na__texts, (by show 1 < 1000; decide), ?_⟩
    refine ⟨sz_of (by show 0 ≤ 100000; decide), fun r hr => ?_⟩
    have npr : r ≠ p := fun z => by rw [z, upd_same] at hr; cases hr
    rw [upd_ne npr] at hr
    have nrd : r ≠ d := fun z => by rw [z, upd_same] at hr; cases hr
    rw [upd_ne nrd, upd_ne npr] at hr
    refine ⟨_, rfl, p, C_Store, dx, _, rfl, (by rw [upd_ne npr.symm]; exact upd_same), TC_Store.cl, TC_Store.na__rows, (by show 2 < 1000; decide), ?_⟩
    refine k d r _ hd hr ⟨⟨dx, upd_same⟩, ?_, by rw [upd_ne npr, upd_same], fun _ h => nomatch h⟩ fun b o hb hne => ?_
    · rw [upd_ne npd.symm, upd_ne nrd.symm, upd_ne npd.symm, upd_same]
    · rw [upd_ne hne, upd_ne (ne_of_none hb hr), upd_ne hne, upd_ne (ne_of_none hb hd), upd_ne hne]
      exact hb
def sp_Store_has_content (C CR : Addr) (_ : PySem.W.Frag) : Sp := fun _ _ _ _ => False
theorem ok_Store_has_content {f : Addr} {C_Store C_Record C_Rule C_Book C_Job C_StoreReader : Addr} {fd : FuncData} (F : Fun K "has_content" "Store.has_content" s_Store_has_content f fd) (T : Tx mg) (G : Gx K mg) (TC_Store : Tc_Store K C_Store) (TC_Record : Tc_Record K C_Record) (TC_Rule : Tc_Rule K C_Rule) (TC_Book : Tc_Book K C_Book) (TC_Job : Tc_Job K C_Job) (TC_StoreReader : Tc_StoreReader K C_StoreReader) (C_content_key : Kn.Cl P w K mg base 1 "content_key" (sp_content_key K)) : FnOk P w K mg base CX0 2 f fd ["self", "key"] (sp_Store_has_content C_Store C_Record K) := by
  refine F.ok sc_Store_has_content (fun vs H Q E h => h.elim) (fun cdv A outer s H vs Q E hr h => h.elim)
theorem ev_rows {σ : L2.St} {H : Hp} {C p d r dx : Addr} {i : Nat} (hσ : σ[i]? = some (some (.ref p))) (hp : H p = some (.ins C dx (fldS d r))) (T : Tc_Store K C) : Ev (tFld K (tVar i) "_rows") σ H (.ref r) := ev_fld (ev_var hσ) hp T.cl T.na__rows (fld_r d r)
theorem ev_texts {σ : L2.St} {H : Hp} {C p d r dx : Addr} {i : Nat} (hσ : σ[i]? = some (some (.ref p))) (hp : H p = some (.ins C dx (fldS d r))) (T : Tc_Store K C) : Ev (tFld K (tVar i) "_texts") σ H (.ref d) := ev_fld (ev_var hσ) hp T.cl T.na__texts (fld_t d r)
def sp_Store_put_content (C CR : Addr) (_ : PySem.W.Frag) : Sp := fun vs H Q _ => ∃ (p d r : Addr) (kvs : List (Key × V)) (xs : List V) (l : List Nat), vs = [.ref p, .str (S l)] ∧ Sto C H p d r kvs xs ∧ Txl l ∧ kvs.length < 1000 ∧
  ∀ H', Sto C H' p d r (putK kvs (Sum.inl ((key l : Nat) : Int)) (.str (S l))) xs → Keeps H H' d → Q (.int ((key l : Nat) : Int)) H'
theorem ok_Store_put_content {f : Addr} {C_Store C_Record C_Rule C_Book C_Job C_StoreReader : Addr} {fd : FuncData} (F : Fun K "put_content" "Store.put_content" s_Store_put_content f fd) (T : Tx mg) (G : Gx K mg) (TC_Store : Tc_Store K C_Store) (TC_Record : Tc_Record K C_Record) (TC_Rule : Tc_Rule K C_Rule) (TC_Book : Tc_Book K C_Book) (TC_Job : Tc_Job K C_Job) (TC_StoreReader : Tc_StoreReader K C_StoreReader) (C_content_key : Kn.Cl P w K mg base 1 "content_key" (sp_content_key K)) (M_Store_has_content : Kn.Mt P w K mg base 2 C_Store "has_content" (sp_Store_has_content C_Store C_Record K)) : FnOk P w K mg base CX0 3 f fd ["self", "text"] (sp_Store_put_content C_Store C_Record K) := by
  refine F.ok sc_Store_put_content (fun vs H Q E h => ?_) (fun cdv A outer s H vs Q E hr h => ?_)
  · obtain ⟨p, d, r, kvs, xs, l, rfl, _⟩ := h
    rfl
  · obtain ⟨p, d, r, kvs, xs, l, rfl, TR, hl, hlen, q⟩ := h
    refine ⟨_, (pss_cons (ps_set (i := 2) sc_Store_put_content.nd rfl (Or.inl rfl) (Kn.pe_cl C_content_key hr (by decide) (by rfl) (pa_cons (pv 1) pa_nil)))
      (pss_cons (ps_if (PW.pt (pw_and (pt_cmpR op_notN1 (pe_fld (pv 0) rfl) pe_non (nomark _)) (pw_and1 (pt_not (pt_val (Kn.pe_mt M_Store_has_content hr (by decide) (pv 0) (pa_cons (pv 2) pa_nil))))))) (pss_one Kn.ps_dead) pss_nil)
      (pss_cons (ps_dput (hu_of hr) (pe_fld (pv 0) rfl) (pv 2) (pv 1) rfl)
      (pss_one (ps_ret (pv 2)))))), ?_⟩
    refine q_asg (ev_c1 (a := l) (ea_cons (ev_var rfl) ea_nil) fun _ _ => hl) fun H1 e1 => ?_
    have T1 := TR.mono e1
    obtain ⟨dx, hp⟩ := T1.ob
    refine q_when (b := false) (et_is (et_and (a := false) (b := true) (et_is (et_notN (ev_fld (ev_var rfl) hp TC_Store.cl TC_Store.na_journal (fld_j d r))) (by simp)) fun z => nomatch z) rfl) (fun z => nomatch z) fun _ H2 e2 => ?_
    refine q_dputI (ev_var rfl) (fun H3 e3 => ev_texts rfl (e3 _ _ (e2 _ _ hp)) TC_Store) (fun H3 e3 => ev_var rfl) (e2 _ _ T1.dc) (by omega) fun H3 e3 => ?_
    have T3 := TR.mono ((e1.trans e2).trans e3)
    refine s_ret (ev_var rfl) fun H4 e4 => q H4 (T3.updD.mono e4) fun b o hb hne => e4 _ _ ?_
    rw [upd_ne hne]
    exact ((e1.trans e2).trans e3) _ _ hb
def sp_Store_add_record (C CR : Addr) (_ : PySem.W.Frag) : Sp := fun vs H Q _ => ∃ (p d r a : Addr) (rc : Rc) (kvs : List (Key × V)) (xs : List V), vs = [.ref p, .ref a] ∧ Sto C H p d r kvs xs ∧ RcO CR H a rc ∧ Fn rc ∧ TxK (fmtRc rc) ∧ xs.length < 1000 ∧
  ∀ y H', Sto C H' p d r kvs (xs ++ [y]) → Keeps H H' r → Q (.int (xs.length : Int)) H'
theorem ok_Store_add_record {f : Addr} {C_Store C_Record C_Rule C_Book C_Job C_StoreReader : Addr} {fd : FuncData} (F : Fun K "add_record" "Store.add_record" s_Store_add_record f fd) (T : Tx mg) (G : Gx K mg) (TC_Store : Tc_Store K C_Store) (TC_Record : Tc_Record K C_Record) (TC_Rule : Tc_Rule K C_Rule) (TC_Book : Tc_Book K C_Book) (TC_Job : Tc_Job K C_Job) (TC_StoreReader : Tc_StoreReader K C_StoreReader) (C_format_record : Kn.Cl P w K mg base 3 "format_record" (sp_format_record C_Record K)) (C_content_key : Kn.Cl P w K mg base 1 "content_key" (sp_content_key K)) : FnOk P w K mg base CX0 4 f fd ["self", "record"] (sp_Store_add_record C_Store C_Record K) := by
  refine F.ok sc_Store_add_record (fun vs H Q E h => ?_) (fun cdv A outer s H vs Q E hr h => ?_)
  · obtain ⟨p, d, r, a, rc, kvs, xs, rfl, _⟩ := h
    rfl
  · obtain ⟨p, d, r, a, rc, kvs, xs, rfl, T0, ha, f, hTx, hl, q⟩ := h
    refine ⟨_, (pss_cons (ps_set (i := 2) sc_Store_add_record.nd rfl (Or.inl rfl) (Kn.pe_cl C_format_record hr (by decide) (by rfl) (pa_cons (pv 1) pa_nil)))
      (pss_cons (ps_if (pt_cmpR op_notN1 (pe_fld (pv 0) rfl) pe_non (nomark _)) (pss_one Kn.ps_dead) pss_nil)
      (pss_cons (ps_expr (pe_bm PySem.F.plainAttrs_list PySem.F.slot_list_append PySem.F.type_list_append mt_append (pe_fld (pv 0) rfl) (pa_cons (pe_tup (pa_cons (Kn.pe_cl C_content_key hr (by decide) (by rfl) (pa_cons (pv 2) pa_nil)) (pa_cons (pv 2) pa_nil))) pa_nil)))
      (pss_one (ps_ret (pe_op op_sub (pe_callB Kn.cr_lenSeq (by rfl) T.b_len PySem.boot_len (pa_cons (pe_fld (pv 0) rfl) pa_nil)) pe_int)))))), ?_⟩
    refine q_asg (ev_c2 (a := a) (b := rc) (ea_cons (ev_var rfl) ea_nil) fun _ e => ⟨ha.mono e, f⟩) fun H1 e1 => ?_
    have T1 := T0.mono e1
    obtain ⟨dx, h1⟩ := T1.ob
    refine q_when (b := false) (et_is (et_notN (ev_fld (ev_var rfl) h1 TC_Store.cl TC_Store.na_journal (fld_j d r))) rfl) (fun z => nomatch z) fun _ H2 e2 => ?_
    refine q_appU (ys := [.int ((key (fmtRc rc) : Nat) : Int), .str (S (fmtRc rc))]) (e2 _ _ T1.rc) (ev_rows rfl (e2 _ _ h1) TC_Store) (eu_tup (ea_cons (ev_c1 (a := fmtRc rc) (ea_cons (ev_var rfl) ea_nil) fun _ _ => f.x) (ea_cons (ev_var rfl) ea_nil)) (by show 2 ≤ 100000; decide)) (by omega) fun t H3 nt e3 ht => ?_
    have T3 := (T1.mono e2).mono e3
    have T4 : Sto C_Store (L2.upd H3 r (.lst (xs ++ [.ref t]))) p d r kvs (xs ++ [.ref t]) := T3.updR fun y hy => by
      rcases List.mem_append.mp hy with z | z
      · exact T3.rv y z
      · rw [List.mem_singleton.mp z]
        exact .inr ⟨t, fmtRc rc, fmtRc rc, rfl, ht, hTx, hTx⟩
    obtain ⟨dx4, h14⟩ := T4.ob
    refine s_ret (v := .int (xs.length : Int)) (ev_is (ev_op (ev_is (ev_len (ev_rows rfl h14 TC_Store) (sq_of T4.rc)) (by rw [List.length_append])) ev_c rv_I0) ?_) fun H5 e5 => q _ H5 (T4.mono e5) fun b o hb hne => e5 _ _ ?_
    · show V.int (((xs.length + 1 : Nat) : Int) - 1) = _
      congr 1
      omega
    · rw [upd_ne hne]
      exact e3 _ _ (e2 _ _ (e1 _ _ hb))
def sp_Store__check_content (C CR : Addr) (G : Gx K mg) : Sp := fun vs H Q E => ∃ (p d r : Addr) (kvs : List (Key × V)) (xs : List V) (k : Int), vs = [.ref p, .int k] ∧ Sto C H p d r kvs xs ∧
  ((valV kvs (Sum.inl k)).isSome = false → Rzv H E G.c_MissingContent "key" (.int k)) ∧ ((valV kvs (Sum.inl k)).isSome = true → Rt H .non Q)
theorem ok_Store__check_content {f : Addr} {C_Store C_Record C_Rule C_Book C_Job C_StoreReader : Addr} {fd : FuncData} (F : Fun K "_check_content" "Store._check_content" s_Store__check_content f fd) (T : Tx mg) (G : Gx K mg) (TC_Store : Tc_Store K C_Store) (TC_Record : Tc_Record K C_Record) (TC_Rule : Tc_Rule K C_Rule) (TC_Book : Tc_Book K C_Book) (TC_Job : Tc_Job K C_Job) (TC_StoreReader : Tc_StoreReader K C_StoreReader) (Z_MissingContent : Kn.Xk P w K mg base 1 "MissingContent" G.c_MissingContent (sp_I1v "key" K)) : FnOk P w K mg base (L2.CX P w) 3 f fd ["self", "key"] (sp_Store__check_content C_Store C_Record G) := by
  refine F.okX sc_Store__check_content (fun vs H Q E h => ?_) (fun cdv A outer s H vs Q E hr h => ?_)
  · obtain ⟨p, d, r, kvs, xs, k, rfl, _⟩ := h
    rfl
  · obtain ⟨p, d, r, kvs, xs, k, rfl, TR, q1, q2⟩ := h
    refine ⟨_, (pss_one (ps_if (pt_cmp (pc_dnotin (hu_of hr) (pv 1) (pe_fld (pv 0) rfl))) (pss_one (Kn.ps_xk Z_MissingContent hr (by decide) rfl (takes_of rfl rfl rfl rfl) (by rfl) (pa_cons (pv 1) pa_nil))) pss_nil)), ?_⟩
    obtain ⟨dx, hp⟩ := TR.ob
    refine s_when (b := !(valV kvs (Sum.inl k)).isSome) (et_B (ev_dninI (ev_var rfl) (ev_texts rfl hp TC_Store) TR.dc)) (fun hb H1 e1 => ?_) fun hb H1 e1 => ?_
    · exact raise1v (W := fun cls d _ H => E cls d H) G.x_MissingContent.oe G.n_MissingContent_key (ev_var rfl) fun d H' e hd => q1 (nb hb) d H' (e1.trans e) hd
    · exact q2 (nf hb) H1 e1
def sp_Store_lose_content (C CR : Addr) (G : Gx K mg) : Sp := fun vs H Q E => ∃ (p d r : Addr) (kvs : List (Key × V)) (xs : List V) (k : Int), vs = [.ref p, .int k] ∧ Sto C H p d r kvs xs ∧
  ((valV kvs (Sum.inl k)).isSome = false → Rzv H E G.c_MissingContent "key" (.int k)) ∧ ((valV kvs (Sum.inl k)).isSome = true → ∀ H', Sto C H' p d r (dropK kvs (Sum.inl k)) xs → Keeps H H' d → Q .non H')
theorem ok_Store_lose_content {f : Addr} {C_Store C_Record C_Rule C_Book C_Job C_StoreReader : Addr} {fd : FuncData} (F : Fun K "lose_content" "Store.lose_content" s_Store_lose_content f fd) (T : Tx mg) (G : Gx K mg) (TC_Store : Tc_Store K C_Store) (TC_Record : Tc_Record K C_Record) (TC_Rule : Tc_Rule K C_Rule) (TC_Book : Tc_Book K C_Book) (TC_Job : Tc_Job K C_Job) (TC_StoreReader : Tc_StoreReader K C_StoreReader) (M_Store__check_content : Kn.MtX P w K mg base 3 C_Store "_check_content" (sp_Store__check_content C_Store C_Record G)) : FnOk P w K mg base (L2.CX P w) 4 f fd ["self", "key"] (sp_Store_lose_content C_Store C_Record G) := by
  refine F.okX sc_Store_lose_content (fun vs H Q E h => ?_) (fun cdv A outer s H vs Q E hr h => ?_)
  · obtain ⟨p, d, r, kvs, xs, k, rfl, _⟩ := h
    rfl
  · obtain ⟨p, d, r, kvs, xs, k, rfl, TR, q1, q2⟩ := h
    refine ⟨_, (pss_cons (ps_expr (Kn.pe_mtX M_Store__check_content hr (by decide) (takes_of rfl rfl rfl rfl) (pv 0) (pa_cons (pv 1) pa_nil)))
      (pss_one (ps_ddel (pe_fld (pv 0) rfl) (pv 1)))), ?_⟩
    obtain ⟨dx, hp⟩ := TR.ob
    refine ⟨_, rfl, p, dx, _, rfl, hp, fld_no d r (by decide +kernel) (by decide +kernel) (by decide +kernel), ?_⟩
    refine ea_cons (ev_var rfl) ea_nil H (Ex.refl _) _ fun H1 e1 => ?_
    refine ⟨p, d, r, kvs, xs, k, rfl, TR.mono e1, fun hb d2 H2 e2 hd2 => q1 hb d2 H2 (e1.trans e2) hd2, fun hb H2 e2 => ?_⟩
    have T2 := TR.mono (e1.trans e2)
    obtain ⟨dx, hp⟩ := T2.ob
    refine s_ddelI (ev_texts rfl hp TC_Store) (fun H3 e3 => ev_var rfl) T2.dc hb fun H3 e3 => q2 hb _ (T2.mono e3).updD fun b o hb hne => ?_
    rw [upd_ne hne]
    exact ((e1.trans e2).trans e3) _ _ hb
def sp_Store_damage_content (C CR : Addr) (G : Gx K mg) : Sp := fun vs H Q E => ∃ (p d r : Addr) (kvs : List (Key × V)) (xs : List V) (k : Int) (l : Str), vs = [.ref p, .int k, .str l] ∧ Sto C H p d r kvs xs ∧ kvs.length < 1000 ∧
  ((valV kvs (Sum.inl k)).isSome = false → Rzv H E G.c_MissingContent "key" (.int k)) ∧ ((valV kvs (Sum.inl k)).isSome = true → ∀ H', Sto C H' p d r (putK kvs (Sum.inl k) (.str l)) xs → Keeps H H' d → Q .non H')
theorem ok_Store_damage_content {f : Addr} {C_Store C_Record C_Rule C_Book C_Job C_StoreReader : Addr} {fd : FuncData} (F : Fun K "damage_content" "Store.damage_content" s_Store_damage_content f fd) (T : Tx mg) (G : Gx K mg) (TC_Store : Tc_Store K C_Store) (TC_Record : Tc_Record K C_Record) (TC_Rule : Tc_Rule K C_Rule) (TC_Book : Tc_Book K C_Book) (TC_Job : Tc_Job K C_Job) (TC_StoreReader : Tc_StoreReader K C_StoreReader) (M_Store__check_content : Kn.MtX P w K mg base 3 C_Store "_check_content" (sp_Store__check_content C_Store C_Record G)) : FnOk P w K mg base (L2.CX P w) 4 f fd ["self", "key", "text"] (sp_Store_damage_content C_Store C_Record G) := by
  refine F.okX sc_Store_damage_content (fun vs H Q E h => ?_) (fun cdv A outer s H vs Q E hr h => ?_)
  · obtain ⟨p, d, r, kvs, xs, k, l, rfl, _⟩ := h
    rfl
  · obtain ⟨p, d, r, kvs, xs, k, l, rfl, TR, hlen, q1, q2⟩ := h
    refine ⟨_, (pss_cons (ps_expr (Kn.pe_mtX M_Store__check_content hr (by decide) (takes_of rfl rfl rfl rfl) (pv 0) (pa_cons (pv 1) pa_nil)))
      (pss_one (ps_dput (hu_of hr) (pe_fld (pv 0) rfl) (pv 1) (pv 2) rfl))), ?_⟩
    obtain ⟨dx, hp⟩ := TR.ob
    refine ⟨_, rfl, p, dx, _, rfl, hp, fld_no d r (by decide +kernel) (by decide +kernel) (by decide +kernel), ?_⟩
    refine ea_cons (ev_var rfl) ea_nil H (Ex.refl _) _ fun H1 e1 => ?_
    refine ⟨p, d, r, kvs, xs, k, rfl, TR.mono e1, fun hb d2 H2 e2 hd2 => q1 hb d2 H2 (e1.trans e2) hd2, fun hb H2 e2 => ?_⟩
    have T2 := TR.mono (e1.trans e2)
    obtain ⟨dx, hp⟩ := T2.ob
    refine s_dputI (ev_var rfl) (fun H3 e3 => ev_texts rfl (e3 _ _ hp) TC_Store) (fun H3 e3 => ev_var rfl) T2.dc (by omega) fun H3 e3 => q2 hb _ (T2.mono e3).updD fun b o hb hne => ?_
    rw [upd_ne hne]
    exact ((e1.trans e2).trans e3) _ _ hb
end

/-! ### rows -/
def atRow (xs : List V) (i : Nat) : Option Addr := match xs[i]? with
  | some (.ref a) => some a
  | _ => none
theorem row_some {xs : List V} {i : Nat} {a : Addr} (h : atRow xs i = some a) : xs[i]? = some (.ref a) := by
  unfold atRow at h
  split at h
  · next z => rw [z]; injection h with h; rw [h]
  · cases h
theorem row_none {H : Hp} {xs : List V} {i : Nat} {v : V} (hr : ∀ x ∈ xs, RowV H x) (h : atRow xs i = none) (hv : xs[i]? = some v) : v = .non := by
  rcases hr v (List.mem_of_getElem? hv) with z | ⟨a, k, x, rfl, _⟩
  · exact z
  · unfold atRow at h
    rw [hv] at h
    cases h
theorem set_rows {H : Hp} {xs : List V} {i : Nat} {v : V} (hr : ∀ x ∈ xs, RowV H x) (hv : RowV H v) : ∀ y ∈ xs.set i v, RowV H y := fun y hy => by
  rcases List.mem_or_eq_of_mem_set hy with z | z
  · exact hr y z
  · rw [z]; exact hv
def Rdk (H : Hp) (kvs : List (Key × V)) (Q : VK) : Prop := ∀ p H1, H p = none → Ex H H1 → H1 p = some (.dK kvs) → Q (.ref p) H1
section
variable {P : Program} {w : World} {K : PySem.W.Frag} {mg : Str → Option Value} {base : Heap}
theorem s_setU {σ : L2.St} {H : Hp} {te ta tb : TE} {D : Ends} {l : Addr} {xs ys : List V} {j : Nat} (hl : H l = some (.lst xs)) (h : EvU te σ H ys) (ho : ∀ H1, Ex H H1 → Ev ta σ H1 (.ref l)) (hi : ∀ H1, Ex H H1 → Ev tb σ H1 (.int (j : Int))) (hj : j < xs.length) (k : ∀ p H1, H p = none → Ex H H1 → H1 p = some (.tup ys) → D.nx σ (L2.upd H1 l (.lst (xs.set j (.ref p))))) :
    tAsg te (gSub ta tb rSetL) D σ H := h H (Ex.refl H) _ fun p H1 np e1 hp => ho H1 e1 H1 (Ex.refl H1) _ fun H2 e2 => hi H2 (e1.trans e2) H2 (Ex.refl H2) _ fun H3 e3 =>
  ⟨l, xs, (j : Int), j, rfl, rfl, ((e1.trans e2).trans e3) l _ hl, ixN_nat hj, k p H3 np ((e1.trans e2).trans e3) ((e2.trans e3) _ _ hp)⟩
def sp_Store__check_kept (C CR : Addr) (G : Gx K mg) : Sp := fun vs H Q E => ∃ (p d r : Addr) (i : Nat) (kvs : List (Key × V)) (xs : List V), vs = [.ref p, .int (i : Int)] ∧ Sto C H p d r kvs xs ∧ i ≤ 1000 ∧ (atRow xs i = none → Rzv H E G.c_NoSuchRecord "index" (.int (i : Int))) ∧ (∀ a, atRow xs i = some a → Rt H .non Q)
theorem ok_Store__check_kept {f : Addr} {C_Store C_Record C_Rule C_Book C_Job C_StoreReader : Addr} {fd : FuncData} (F : Fun K "_check_kept" "Store._check_kept" s_Store__check_kept f fd) (T : Tx mg) (G : Gx K mg) (TC_Store : Tc_Store K C_Store) (TC_Record : Tc_Record K C_Record) (TC_Rule : Tc_Rule K C_Rule) (TC_Book : Tc_Book K C_Book) (TC_Job : Tc_Job K C_Job) (TC_StoreReader : Tc_StoreReader K C_StoreReader) (Z_NoSuchRecord : Kn.Xk P w K mg base 1 "NoSuchRecord" G.c_NoSuchRecord (sp_I1z "index" K)) : FnOk P w K mg base (L2.CX P w) 3 f fd ["self", "index"] (sp_Store__check_kept C_Store C_Record G) := by
  refine F.okX sc_Store__check_kept (fun vs H Q E h => ?_) (fun cdv A outer s H vs Q E hr h => ?_)
  · obtain ⟨p, d, r, i, kvs, xs, rfl, _⟩ := h
    rfl
  · obtain ⟨p, d, r, i, kvs, xs, rfl, T0, hi, q1, q2⟩ := h
    refine ⟨_, (pss_one (ps_if (PW.pt (pw_or (pt_not (pt_chain op_le op_lt pe_int (pv 1) (pe_callB Kn.cr_lenSeq (by rfl) T.b_len PySem.boot_len (pa_cons (pe_fld (pv 0) rfl) pa_nil)))) (pw_or1 (pt_cmpR op_isN1 (pe_ix ix_list (pe_fld (pv 0) rfl) (pv 1) (fun _ _ => rfl)) pe_non (nomark _))))) (pss_one (Kn.ps_xk Z_NoSuchRecord hr (by decide) rfl (takes_of rfl rfl rfl rfl) (by rfl) (pa_cons (pv 1) pa_nil))) pss_nil)), ?_⟩
    obtain ⟨dx, h1⟩ := T0.ob
    have h2 := T0.rc
    have bad : ∀ H1, Ex H H1 → atRow xs i = none → tMkO G.c_NoSuchRecord (sp_I1z "index" K) [] (tCons (tVar 1) tNil) [some (.ref p), some (.int (i : Int))] H1 (fun cls d H' => E cls d H') := fun H1 e1 hn =>
      raise1z (W := fun cls d _ H => E cls d H) G.x_NoSuchRecord.oe G.n_NoSuchRecord_index (sm_I (by omega) (by omega)) (ev_var rfl) fun d H' e hd => q1 hn d H' (e1.trans e) hd
    have hch : EvT (tNot (tTest (tChain (rI0 fun i j => .bl (decide (i ≤ j))) (rI0 fun i j => .bl (decide (i < j))) (tC (.int 0)) (tVar 1) (tCB (rLenS K) (tCons (tFld K (tVar 0) "_rows") tNil))))) [some (.ref p), some (.int (i : Int))] H (!(decide (0 ≤ (i : Int)) && decide ((i : Int) < (xs.length : Int)))) :=
      et_not (et_test (ev_chain ev_c (ev_var rfl) rv_le (ev_len (ev_rows rfl h1 TC_Store) (sq_of h2)) rv_lt))
    cases hl : atRow xs i with
    | none =>
      refine s_when (b := true) (et_is (et_or (b := true) hch fun hc => ?_) (by rw [Bool.or_true])) (fun _ H1 e1 => bad H1 e1 hl) (fun z => nomatch z)
      rw [Bool.not_eq_false', Bool.and_eq_true, decide_eq_true_eq, decide_eq_true_eq] at hc
      have hj : i < xs.length := by omega
      have hx := List.getElem?_eq_getElem hj
      have hn := row_none T0.rv hl hx
      exact et_is (et_isN (ev_op (ev_rows rfl h1 TC_Store) (ev_var rfl) (rv_ixL (sq_of h2) (atI_nat' rfl hx)))) (by rw [hn]; rfl)
    | some a =>
      have hx := row_some hl
      have hj := (List.getElem?_eq_some_iff.mp hx).1
      refine s_when (b := false) (et_is (et_or (b := false) hch fun hc => et_is (et_isN (ev_op (ev_rows rfl h1 TC_Store) (ev_var rfl) (rv_ixL (sq_of h2) (atI_nat' rfl hx)))) rfl) ?_) (fun z => nomatch z) (fun _ H1 e1 => q2 a hl H1 e1)
      rw [decide_eq_true (by omega), decide_eq_true (by omega)]
      rfl
theorem q_check {σ : L2.St} {H : Hp} {D : Ends} {tz : TS} {W : WX} {C CR p d r : Addr} {i : Nat} {kvs : List (Key × V)} {xs : List V} {G : Gx K mg} (hp : σ[0]? = some (some (.ref p))) (hi : σ[1]? = some (some (.int (i : Int)))) (T0 : Sto C H p d r kvs xs) (hb : i ≤ 1000)
    (q1 : atRow xs i = none → Rzv H (WE W σ) G.c_NoSuchRecord "index" (.int (i : Int))) (q2 : ∀ a, atRow xs i = some a → ∀ H1, Ex H H1 → tz D σ H1) :
    tSeq (tDrop (tMethX C "_check_kept" (sp_Store__check_kept C CR G) (WE W) (tVar 0) (tCons (tVar 1) tNil))) tz D σ H := by
  obtain ⟨dx, h1⟩ := T0.ob
  refine ⟨_, hp, p, dx, _, rfl, h1, fld_no d r (by decide +kernel) (by decide +kernel) (by decide +kernel), ?_⟩
  refine ea_cons (ev_var hi) ea_nil H (Ex.refl _) _ fun H1 e1 => ?_
  exact ⟨p, d, r, i, kvs, xs, rfl, T0.mono e1, hb, fun hn d' H2 e2 h2 => q1 hn d' H2 (e1.trans e2) h2, fun a ha H2 e2 => q2 a ha H2 (e1.trans e2)⟩
def sp_Store_lose_record (C CR : Addr) (G : Gx K mg) : Sp := fun vs H Q E => ∃ (p d r : Addr) (i : Nat) (kvs : List (Key × V)) (xs : List V), vs = [.ref p, .int (i : Int)] ∧ Sto C H p d r kvs xs ∧ i ≤ 1000 ∧ (atRow xs i = none → Rzv H E G.c_NoSuchRecord "index" (.int (i : Int))) ∧
  (∀ H', Sto C H' p d r kvs (xs.set i .non) → Keeps H H' r → Q .non H')
theorem ok_Store_lose_record {f : Addr} {C_Store C_Record C_Rule C_Book C_Job C_StoreReader : Addr} {fd : FuncData} (F : Fun K "lose_record" "Store.lose_record" s_Store_lose_record f fd) (T : Tx mg) (G : Gx K mg) (TC_Store : Tc_Store K C_Store) (TC_Record : Tc_Record K C_Record) (TC_Rule : Tc_Rule K C_Rule) (TC_Book : Tc_Book K C_Book) (TC_Job : Tc_Job K C_Job) (TC_StoreReader : Tc_StoreReader K C_StoreReader) (M_Store__check_kept : Kn.MtX P w K mg base 3 C_Store "_check_kept" (sp_Store__check_kept C_Store C_Record G)) : FnOk P w K mg base (L2.CX P w) 4 f fd ["self", "index"] (sp_Store_lose_record C_Store C_Record G) := by
  refine F.okX sc_Store_lose_record (fun vs H Q E h => ?_) (fun cdv A outer s H vs Q E hr h => ?_)
  · obtain ⟨p, d, r, i, kvs, xs, rfl, _⟩ := h
    rfl
  · obtain ⟨p, d, r, i, kvs, xs, rfl, T0, hi, q1, q2⟩ := h
    refine ⟨_, (pss_cons (ps_expr (Kn.pe_mtX M_Store__check_kept hr (by decide) (takes_of rfl rfl rfl rfl) (pv 0) (pa_cons (pv 1) pa_nil)))
      (pss_one (ps_asg pe_non (pg_sub (pe_fld (pv 0) rfl) (pv 1) set_list)))), ?_⟩
    refine q_check rfl rfl T0 hi q1 fun a ha H1 e1 => ?_
    have hj := (List.getElem?_eq_some_iff.mp (row_some ha)).1
    have T1 := T0.mono e1
    obtain ⟨dx, h1⟩ := T1.ob
    refine s_setL (j := i) T1.rc ev_c (ev_rows rfl h1 TC_Store) (ev_var rfl) hj fun H2 e2 => ?_
    have T2 := T1.mono e2
    refine q2 _ (T2.updR (set_rows T2.rv (.inl rfl))) fun b o hb hne => ?_
    rw [upd_ne hne]
    exact e2 _ _ (e1 _ _ hb)
def sp_Store_damage_record (C CR : Addr) (G : Gx K mg) : Sp := fun vs H Q E => ∃ (p d r : Addr) (i : Nat) (m : List Nat) (kvs : List (Key × V)) (xs : List V), vs = [.ref p, .int (i : Int), .str (S m)] ∧ Sto C H p d r kvs xs ∧ TxK m ∧ i ≤ 1000 ∧ (atRow xs i = none → Rzv H E G.c_NoSuchRecord "index" (.int (i : Int))) ∧
  (∀ t H', Sto C H' p d r kvs (xs.set i (.ref t)) → Keeps H H' r → Q .non H')
theorem ok_Store_damage_record {f : Addr} {C_Store C_Record C_Rule C_Book C_Job C_StoreReader : Addr} {fd : FuncData} (F : Fun K "damage_record" "Store.damage_record" s_Store_damage_record f fd) (T : Tx mg) (G : Gx K mg) (TC_Store : Tc_Store K C_Store) (TC_Record : Tc_Record K C_Record) (TC_Rule : Tc_Rule K C_Rule) (TC_Book : Tc_Book K C_Book) (TC_Job : Tc_Job K C_Job) (TC_StoreReader : Tc_StoreReader K C_StoreReader) (M_Store__check_kept : Kn.MtX P w K mg base 3 C_Store "_check_kept" (sp_Store__check_kept C_Store C_Record G)) : FnOk P w K mg base (L2.CX P w) 4 f fd ["self", "index", "line"] (sp_Store_damage_record C_Store C_Record G) := by
  refine F.okX sc_Store_damage_record (fun vs H Q E h => ?_) (fun cdv A outer s H vs Q E hr h => ?_)
  · obtain ⟨p, d, r, i, m, kvs, xs, rfl, _⟩ := h
    rfl
  · obtain ⟨p, d, r, i, m, kvs, xs, rfl, T0, hm, hi, q1, q2⟩ := h
    refine ⟨_, (pss_cons (ps_expr (Kn.pe_mtX M_Store__check_kept hr (by decide) (takes_of rfl rfl rfl rfl) (pv 0) (pa_cons (pv 1) pa_nil)))
      (pss_one (ps_asg (pe_tup (pa_cons (pe_ix ix_tup (pe_ix ix_list (pe_fld (pv 0) rfl) (pv 1) (fun _ _ => rfl)) pe_int (fun _ _ => rfl)) (pa_cons (pv 2) pa_nil))) (pg_sub (pe_fld (pv 0) rfl) (pv 1) set_list)))), ?_⟩
    refine q_check rfl rfl T0 hi q1 fun a ha H1 e1 => ?_
    have hx := row_some ha
    have hj := (List.getElem?_eq_some_iff.mp hx).1
    have T1 := T0.mono e1
    obtain ⟨dx, h1⟩ := T1.ob
    obtain ⟨a', k, x, e, hrow, t1, t2⟩ : ∃ (a' : Addr) (k x : List Nat), V.ref a = .ref a' ∧ H1 a' = some (.tup [.int ((key k : Nat) : Int), .str (S x)]) ∧ TxK k ∧ TxK x := by
      rcases T1.rv _ (List.mem_of_getElem? hx) with z | z
      · cases z
      · exact z
    cases e
    refine s_setU (j := i) (ys := [.int ((key k : Nat) : Int), .str (S m)]) T1.rc (eu_tup (ea_cons (ev_op (ev_op (ev_rows rfl h1 TC_Store) (ev_var rfl) (rv_ixL (sq_of T1.rc) (atI_nat' rfl hx))) ev_c (rv_ixT (st_of hrow) (atI_nat (j := 0) rfl))) (ea_cons (ev_var rfl) ea_nil)) (by show 2 ≤ 100000; decide)) (fun H2 e2 => ev_rows rfl (e2 _ _ h1) TC_Store) (fun H2 e2 => ev_var rfl) hj fun t H2 nt e2 ht => ?_
    have T2 := T1.mono e2
    refine q2 t _ (T2.updR (set_rows T2.rv (.inr ⟨t, k, m, rfl, ht, t1, hm⟩))) fun b o hb hne => ?_
    rw [upd_ne hne]
    exact e2 _ _ (e1 _ _ hb)
def sp_Store_record_count (C CR : Addr) (_ : PySem.W.Frag) : Sp := fun vs H Q _ => ∃ (p d r : Addr) (kvs : List (Key × V)) (xs : List V), vs = [.ref p] ∧ Sto C H p d r kvs xs ∧ Rt H (.int (xs.length : Int)) Q
theorem ok_Store_record_count {f : Addr} {C_Store C_Record C_Rule C_Book C_Job C_StoreReader : Addr} {fd : FuncData} (F : Fun K "record_count" "Store.record_count" s_Store_record_count f fd) (T : Tx mg) (G : Gx K mg) (TC_Store : Tc_Store K C_Store) (TC_Record : Tc_Record K C_Record) (TC_Rule : Tc_Rule K C_Rule) (TC_Book : Tc_Book K C_Book) (TC_Job : Tc_Job K C_Job) (TC_StoreReader : Tc_StoreReader K C_StoreReader)  : FnOk P w K mg base CX0 1 f fd ["self"] (sp_Store_record_count C_Store C_Record K) := by
  refine F.ok sc_Store_record_count (fun vs H Q E h => ?_) (fun cdv A outer s H vs Q E hr h => ?_)
  · obtain ⟨p, d, r, kvs, xs, rfl, _⟩ := h
    rfl
  · obtain ⟨p, d, r, kvs, xs, rfl, T0, q⟩ := h
    refine ⟨_, (pss_one (ps_ret (pe_callB Kn.cr_lenSeq (by rfl) T.b_len PySem.boot_len (pa_cons (pe_fld (pv 0) rfl) pa_nil)))), ?_⟩
    obtain ⟨dx, h1⟩ := T0.ob
    exact s_ret (ev_len (ev_rows rfl h1 TC_Store) (sq_of T0.rc)) q
def sp_Store_kept_records (C CR : Addr) (_ : PySem.W.Frag) : Sp := fun vs H Q _ => ∃ (p d r : Addr) (kvs : List (Key × V)) (xs : List V), vs = [.ref p] ∧ Sto C H p d r kvs xs ∧ Rl H xs Q
theorem ok_Store_kept_records {f : Addr} {C_Store C_Record C_Rule C_Book C_Job C_StoreReader : Addr} {fd : FuncData} (F : Fun K "kept_records" "Store.kept_records" s_Store_kept_records f fd) (T : Tx mg) (G : Gx K mg) (TC_Store : Tc_Store K C_Store) (TC_Record : Tc_Record K C_Record) (TC_Rule : Tc_Rule K C_Rule) (TC_Book : Tc_Book K C_Book) (TC_Job : Tc_Job K C_Job) (TC_StoreReader : Tc_StoreReader K C_StoreReader)  : FnOk P w K mg base CX0 1 f fd ["self"] (sp_Store_kept_records C_Store C_Record K) := by
  refine F.ok sc_Store_kept_records (fun vs H Q E h => ?_) (fun cdv A outer s H vs Q E hr h => ?_)
  · obtain ⟨p, d, r, kvs, xs, rfl, _⟩ := h
    rfl
  · obtain ⟨p, d, r, kvs, xs, rfl, T0, q⟩ := h
    refine ⟨_, (pss_one (ps_ret (pe_callTy Kn.cr_listS (by rfl) T.b_list (by decide +kernel) (pa_cons (pe_fld (pv 0) rfl) pa_nil)))), ?_⟩
    obtain ⟨dx, h1⟩ := T0.ob
    exact s_retL (el_list (ev_rows rfl h1 TC_Store) (sq_of T0.rc)) q
def sp_Store_kept_texts (C CR : Addr) (_ : PySem.W.Frag) : Sp := fun vs H Q _ => ∃ (p d r : Addr) (kvs : List (Key × V)) (xs : List V), vs = [.ref p] ∧ Sto C H p d r kvs xs ∧ Rdk H kvs Q
theorem ok_Store_kept_texts {f : Addr} {C_Store C_Record C_Rule C_Book C_Job C_StoreReader : Addr} {fd : FuncData} (F : Fun K "kept_texts" "Store.kept_texts" s_Store_kept_texts f fd) (T : Tx mg) (G : Gx K mg) (TC_Store : Tc_Store K C_Store) (TC_Record : Tc_Record K C_Record) (TC_Rule : Tc_Rule K C_Rule) (TC_Book : Tc_Book K C_Book) (TC_Job : Tc_Job K C_Job) (TC_StoreReader : Tc_StoreReader K C_StoreReader)  : FnOk P w K mg base CX0 1 f fd ["self"] (sp_Store_kept_texts C_Store C_Record K) := by
  refine F.ok sc_Store_kept_texts (fun vs H Q E h => ?_) (fun cdv A outer s H vs Q E hr h => ?_)
  · obtain ⟨p, d, r, kvs, xs, rfl, _⟩ := h
    rfl
  · obtain ⟨p, d, r, kvs, xs, rfl, T0, q⟩ := h
    refine ⟨_, (pss_one (ps_ret (pe_callTy call_dictD (by rfl) T.b_dict (by decide +kernel) (pa_cons (pe_fld (pv 0) rfl) pa_nil)))), ?_⟩
    obtain ⟨dx, h1⟩ := T0.ob
    refine ev_texts rfl h1 TC_Store H (Ex.refl _) _ fun H1 e1 => ⟨d, kvs, rfl, .inl (e1 _ _ T0.dc), fun p2 hp2 => ?_⟩
    exact q p2 _ (fresh_back e1 hp2) (e1.trans (Ex.new hp2)) upd_same
def sp_Store_content_keys (C CR : Addr) (_ : PySem.W.Frag) : Sp := fun vs H Q _ => ∃ (p d r : Addr) (kvs : List (Key × V)) (xs : List V) (ks : List Int), vs = [.ref p] ∧ Sto C H p d r kvs xs ∧ kvs.map (·.1) = ks.map Sum.inl ∧ ks.length < 64 ∧ ∀ ys : List Int, ys.Perm ks → ys.Pairwise (· ≤ ·) → Rl H (ys.map V.int) Q
theorem ok_Store_content_keys {f : Addr} {C_Store C_Record C_Rule C_Book C_Job C_StoreReader : Addr} {fd : FuncData} (F : Fun K "content_keys" "Store.content_keys" s_Store_content_keys f fd) (T : Tx mg) (G : Gx K mg) (TC_Store : Tc_Store K C_Store) (TC_Record : Tc_Record K C_Record) (TC_Rule : Tc_Rule K C_Rule) (TC_Book : Tc_Book K C_Book) (TC_Job : Tc_Job K C_Job) (TC_StoreReader : Tc_StoreReader K C_StoreReader)  : FnOk P w K mg base CX0 1 f fd ["self"] (sp_Store_content_keys C_Store C_Record K) := by
  refine F.ok sc_Store_content_keys (fun vs H Q E h => ?_) (fun cdv A outer s H vs Q E hr h => ?_)
  · obtain ⟨p, d, r, kvs, xs, ks, rfl, _⟩ := h
    rfl
  · obtain ⟨p, d, r, kvs, xs, ks, rfl, TR, hk, hl, q⟩ := h
    refine ⟨_, (pss_one (ps_ret (pe_callB (Kn.cr_sortDI rfl) (by rfl) T.b_sorted (by decide +kernel) (pa_cons (pe_fld (pv 0) rfl) pa_nil)))), ?_⟩
    obtain ⟨dx, hp⟩ := TR.ob
    refine ev_texts rfl hp TC_Store H (Ex.refl _) _ fun H1 e1 => ⟨d, kvs, ks, rfl, .inl (e1 _ _ TR.dc), hk, hl, fun ys l hperm hs hn => ?_⟩
    exact q ys hperm hs l _ (fresh_back e1 hn) (e1.trans (Ex.new hn)) upd_same
def sp_Store_fill_from (C CR : Addr) (_ : PySem.W.Frag) : Sp := fun vs H Q _ => ∃ (p dx d0 r0 a b : Addr) (kvs : List (Key × V)) (xs : List V), vs = [.ref p, .ref a, .ref b] ∧ H p = some (.ins C dx (fldS d0 r0)) ∧ H a = some (.dK kvs) ∧ H b = some (.lst xs) ∧ (∀ x ∈ xs, RowV H x) ∧
  ∀ (d r : Addr) (H' : Hp), H d = none → H r = none → Sto C H' p d r kvs xs → (∀ b o, H b = some o → b ≠ p → H' b = some o) → Q .non H'
theorem ok_Store_fill_from {f : Addr} {C_Store C_Record C_Rule C_Book C_Job C_StoreReader : Addr} {fd : FuncData} (F : Fun K "fill_from" "Store.fill_from" s_Store_fill_from f fd) (T : Tx mg) (G : Gx K mg) (TC_Store : Tc_Store K C_Store) (TC_Record : Tc_Record K C_Record) (TC_Rule : Tc_Rule K C_Rule) (TC_Book : Tc_Book K C_Book) (TC_Job : Tc_Job K C_Job) (TC_StoreReader : Tc_StoreReader K C_StoreReader)  : FnOk P w K mg base CX0 1 f fd ["self", "texts", "rows"] (sp_Store_fill_from C_Store C_Record K) := by
  refine F.ok sc_Store_fill_from (fun vs H Q E h => ?_) (fun cdv A outer s H vs Q E hr h => ?_)
  · obtain ⟨p, dx, d0, r0, a, b, kvs, xs, rfl, _⟩ := h
    rfl
  · obtain ⟨p, dx, d0, r0, a, b, kvs, xs, rfl, hp, ha, hb, hrv, q⟩ := h
    refine ⟨_, (pss_cons (ps_fld (pv 0) (pe_callTy call_dictD (by rfl) T.b_dict (by decide +kernel) (pa_cons (pv 1) pa_nil)) rfl)
      (pss_one (ps_fld (pv 0) (pe_callTy Kn.cr_listS (by rfl) T.b_list (by decide +kernel) (pa_cons (pv 2) pa_nil)) rfl))), ?_⟩
    refine ⟨_, rfl, a, kvs, rfl, .inl ha, fun d hd => ?_⟩
    have npd : p ≠ d := ne_of_none hp hd
    refine ⟨_, rfl, p, C_Store, dx, _, rfl, (by rw [upd_ne npd]; exact hp), TC_Store.cl, TC_Store.na__texts, (by show 3 < 1000; decide), ?_⟩
    have npb : b ≠ p := (ne_of hp hb (by intro z; cases z)).symm
    have nbd : b ≠ d := ne_of_none hb hd
    refine ⟨_, rfl, b, xs, rfl, .inl (sq_of (by rw [upd_ne npb, upd_ne nbd]; exact hb)), fun r hr => ?_⟩
    have npr : r ≠ p := fun z => by rw [z, upd_same] at hr; cases hr
    rw [upd_ne npr] at hr
    have nrd : r ≠ d := fun z => by rw [z, upd_same] at hr; cases hr
    rw [upd_ne nrd] at hr
    refine ⟨_, rfl, p, C_Store, dx, _, rfl, (by rw [upd_ne npr.symm]; exact upd_same), TC_Store.cl, TC_Store.na__rows, (by show 3 < 1000; decide), ?_⟩
    refine q d r _ hd hr ⟨⟨dx, upd_same⟩, ?_, by rw [upd_ne npr, upd_same], fun x hx => (hrv x hx).keep fun c ys hc => ?_⟩ fun c o hc hne => ?_
    · rw [upd_ne npd.symm, upd_ne nrd.symm, upd_ne npd.symm, upd_same]
    · have n1 := ne_of hc hp (by intro z; cases z)
      rw [upd_ne n1, upd_ne (ne_of_none hc hr), upd_ne n1, upd_ne (ne_of_none hc hd)]
      exact hc
    · rw [upd_ne hne, upd_ne (ne_of_none hc hr), upd_ne hne, upd_ne (ne_of_none hc hd)]
      exact hc
end

--SPLIT
section
theorem scan_stop {l : List Nat} {b : Nat} (h : l.length ≤ b) (n : Nat) (ts : List Tok3) : scanG l n b ts = .inl ts := by
  cases n with
  | zero => rfl
  | succ n =>
    unfold scanG
    rw [if_neg (by omega)]
theorem scan_tok {l : List Nat} {b : Nat} {ts : List Tok3} {k t : List Nat} {b2 : Nat} (hb : b < l.length) (hs : l[b]? ≠ some 32) (ht : tokG l b = .inl (k, t, b2)) : scanG l l.length (skip l b) ts = scanG l l.length (skip l b2) (ts ++ [(k, t, b + 1)]) := by
  have h1 := tok_ge hb hs ht
  dsimp only at h1
  have h2 := skip_ge l b2
  rw [skip_end (fun z => hs z.2)]
  have e : scanG l l.length b ts = scanG l (l.length - 1) (skip l b2) (ts ++ [(k, t, b + 1)]) := by
    rw [show l.length = (l.length - 1) + 1 by omega]
    conv => lhs; unfold scanG
    rw [if_pos (by omega), ht]
    rfl
  rw [e]
  exact scan_enough _ _ _ _ (skip_ns l b2) (by omega) (by omega)
end
section
def eO (c : Nat) : List Nat := if c = 10 then [92, 110] else if c = 34 ∨ c = 92 then [92, c] else [c]
def fm (l : List Nat) : List Nat := l.flatMap eO
def wr (l : List Nat) : List Nat := [34] ++ fm l ++ [34]
theorem fm_cons (c : Nat) (r : List Nat) : fm (c :: r) = eO c ++ fm r := List.flatMap_cons
theorem sub1_app (c : Nat) (z a b : List Nat) : sub1 c z (a ++ b) = sub1 c z a ++ sub1 c z b := List.flatMap_append
theorem sub1_ne {c e : Nat} {z : List Nat} (h : e ≠ c) : sub1 c z [e] = [e] := by
  unfold sub1
  rw [List.flatMap_cons, if_neg h]
  rfl
theorem sub_comp : ∀ l : List Nat, sub1 10 [92, 110] (sub1 34 [92, 34] (sub1 92 [92, 92] l)) = fm l
  | [] => rfl
  | e :: r => by
    rw [show e :: r = [e] ++ r from rfl, sub1_app, sub1_app, sub1_app, sub_comp r]
    show _ = fm (e :: r)
    rw [fm_cons]
    congr 1
    unfold eO
    by_cases h1 : e = 10
    · subst h1
      rfl
    · rw [if_neg h1]
      by_cases h2 : e = 34
      · subst h2
        rfl
      · by_cases h3 : e = 92
        · subst h3
          rfl
        · rw [if_neg (fun z => z.elim h2 h3), sub1_ne h3, sub1_ne h2, sub1_ne h1]
theorem eO_len (c : Nat) : (eO c).length ≤ 2 := by
  unfold eO
  split
  · decide
  · split
    · show 2 ≤ 2
      decide
    · show 1 ≤ 2
      decide
theorem sub1_len {c : Nat} {z : List Nat} (hz : z.length ≤ 2) : ∀ l : List Nat, (sub1 c z l).length ≤ 2 * l.length
  | [] => Nat.le_refl _
  | e :: r => by
    rw [show e :: r = [e] ++ r from rfl, sub1_app, List.length_append, List.length_append, List.length_singleton]
    have h := sub1_len (c := c) hz r
    have h2 : (sub1 c z [e]).length ≤ 2 := by
      unfold sub1
      rw [List.flatMap_cons, List.length_append]
      show _ + 0 ≤ 2
      split
      · exact hz
      · show 1 + 0 ≤ 2
        decide
    omega
theorem fm_len : ∀ l : List Nat, (fm l).length ≤ 2 * l.length
  | [] => Nat.le_refl _
  | c :: r => by
    rw [fm_cons, List.length_append, List.length_cons]
    have h1 := eO_len c
    have h2 := fm_len r
    omega
theorem wr_len (l : List Nat) : (wr l).length = (fm l).length + 2 := by
  unfold wr
  rw [List.length_append, List.length_append]
  show 1 + _ + 1 = _
  omega
theorem strG_fm : ∀ (t rest : List Nat) (b q : Nat) (acc : List Nat), strG (fm t ++ 34 :: rest) b q acc = .inl (acc ++ t, b + (fm t).length + 1)
  | [], rest, b, q, acc => by
    show strG (34 :: rest) b q acc = _
    rw [strG_cons, if_pos rfl, List.append_nil]
    rfl
  | c :: t, rest, b, q, acc => by
    rw [fm_cons, List.append_assoc, List.length_append]
    have fin : acc ++ [c] ++ t = acc ++ c :: t := by rw [List.append_assoc]; rfl
    unfold eO
    by_cases h1 : c = 10
    · subst h1
      rw [if_pos rfl]
      show strG (92 :: 110 :: (fm t ++ 34 :: rest)) b q acc = .inl (_, b + (2 + (fm t).length) + 1)
      rw [strG_cons, if_neg (by decide), if_pos rfl]
      show strG (fm t ++ 34 :: rest) (b + 2) q (acc ++ [10]) = _
      rw [strG_fm t rest, fin, show b + 2 + (fm t).length + 1 = b + (2 + (fm t).length) + 1 by omega]
    · rw [if_neg h1]
      by_cases h2 : c = 34
      · subst h2
        rw [if_pos (.inl rfl)]
        show strG (92 :: 34 :: (fm t ++ 34 :: rest)) b q acc = .inl (_, b + (2 + (fm t).length) + 1)
        rw [strG_cons, if_neg (by decide), if_pos rfl]
        show strG (fm t ++ 34 :: rest) (b + 2) q (acc ++ [34]) = _
        rw [strG_fm t rest, fin, show b + 2 + (fm t).length + 1 = b + (2 + (fm t).length) + 1 by omega]
      · by_cases h3 : c = 92
        · subst h3
          rw [if_pos (.inr rfl)]
          show strG (92 :: 92 :: (fm t ++ 34 :: rest)) b q acc = .inl (_, b + (2 + (fm t).length) + 1)
          rw [strG_cons, if_neg (by decide), if_pos rfl]
          show strG (fm t ++ 34 :: rest) (b + 2) q (acc ++ [92]) = _
          rw [strG_fm t rest, fin, show b + 2 + (fm t).length + 1 = b + (2 + (fm t).length) + 1 by omega]
        · rw [if_neg (fun z => z.elim h2 h3)]
          show strG (c :: (fm t ++ 34 :: rest)) b q acc = .inl (_, b + (1 + (fm t).length) + 1)
          rw [strG_cons, if_neg h2, if_neg h3, strG_fm t rest, fin, show b + 1 + (fm t).length + 1 = b + (1 + (fm t).length) + 1 by omega]
theorem tokG_str {l t rest : List Nat} {b : Nat} (h : l.drop b = wr t ++ rest) : tokG l b = .inl (kStr, t, b + (wr t).length) := by
  have e : wr t ++ rest = 34 :: (fm t ++ 34 :: rest) := by
    unfold wr
    rw [List.append_assoc, List.append_assoc]
    rfl
  unfold tokG
  rw [h, e]
  dsimp only
  rw [if_pos rfl, strG_fm, wr_len]
  show Sum.inl (kStr, [] ++ t, b + 1 + (fm t).length + 1) = _
  rw [List.nil_append, show b + 1 + (fm t).length + 1 = b + ((fm t).length + 2) by omega]
theorem tokG_w {l rest : List Nat} {b c : Nat} (h : l.drop b = c :: rest) (hc : c ≠ 34) (hs : c ∉ SGN) (hw : c ∉ WEN) (hr : rest = [] ∨ ∃ r, rest = 32 :: r) : tokG l b = .inl (kWrd, [c], b + 1) := by
  have e : wordG l b = [c] := by
    unfold wordG
    rw [h, List.takeWhile_cons, decide_eq_false hw]
    rcases hr with z | ⟨r, z⟩
    · subst z
      rfl
    · subst z
      rw [List.takeWhile_cons, show decide (32 ∈ WEN) = true by decide +kernel]
      rfl
  unfold tokG
  rw [h]
  dsimp only
  rw [if_neg hc, if_neg hs, e]
  rfl
theorem get_drop {l r : List Nat} {b c : Nat} (h : l.drop b = c :: r) : l[b]? = some c := by
  have e : (l.drop b)[0]? = some c := by rw [h]; rfl
  rw [List.getElem?_drop] at e
  exact e
theorem lt_drop {l r : List Nat} {b c : Nat} (h : l.drop b = c :: r) : b < l.length := by
  have e := congrArg List.length h
  rw [List.length_drop, List.length_cons] at e
  omega
end
section
variable {P : Program} {w : World} {K : PySem.W.Frag} {mg : Str → Option Value} {base : Heap}
def sp_format_string (_ : PySem.W.Frag) : Sp := sp1 (fun l : List Nat => [.str (S l)]) (fun l _ => l.length ≤ 9000) (fun l => .str (S (wr l)))
theorem ok_format_string {f : Addr} {C_Store C_Record C_Rule C_Book C_Job C_StoreReader : Addr} {fd : FuncData} (F : Fun K "format_string" "format_string" s_format_string f fd) (T : Tx mg) (G : Gx K mg) (TC_Store : Tc_Store K C_Store) (TC_Record : Tc_Record K C_Record) (TC_Rule : Tc_Rule K C_Rule) (TC_Book : Tc_Book K C_Book) (TC_Job : Tc_Job K C_Job) (TC_StoreReader : Tc_StoreReader K C_StoreReader)  : FnOk P w K mg base CX0 1 f fd ["text"] (sp_format_string K) := by
  refine okT F sc_format_string (by decide +kernel) (by decide) (fun vs H Q E h => ?_) (fun cdv A outer s H vs Q E hr h => ?_)
  · obtain ⟨l, rfl, _⟩ := h
    rfl
  · obtain ⟨l, rfl, hl, q⟩ := h
    refine ⟨_, (psst_cons (Kn.pst_set (i := 1) sc_format_string.nd rfl (Or.inl rfl) (CwR.pet_replT (CwR.pet_replT (CwR.pet_replC (pv 0)))))
      (psst_cons (PST.of (ps_ret (pe_op Kn.op_addS (pe_op Kn.op_addS pe_str (pv 1)) pe_str)))
      (PSsT.of pss_nil))), ?_⟩
    have l1 := sub1_len (c := 92) (z := [92, 92]) (by decide) l
    have l2 := sub1_len (c := 34) (z := [92, 34]) (by decide) (sub1 92 [92, 92] l)
    have l3 := fm_len l
    refine q_asg (v := .str (S (fm l))) (ev_is (ev_replA (c := 10) (z := [92, 110]) (ev_replA (c := 34) (z := [92, 34]) (ev_replA (c := 92) (z := [92, 92]) (ev_var rfl) rfl rfl (by omega) (by decide)) rfl rfl (by omega) (by decide)) rfl rfl (by omega) (by decide)) (by rw [sub_comp])) fun H1 e1 => ?_
    refine s_ret (v := .str (S (wr l))) (ev_op (ev_op (ev_cS (l := [34]) rfl) (ev_var rfl) (rv_addS (by show 1 + _ ≤ 100000; omega))) (ev_cS (l := [34]) rfl) (rv_addS (by rw [List.length_append]; show 1 + _ + 1 ≤ 100000; omega))) fun H2 e2 => q H2 (e1.trans e2)
open Kn.Rp (idOk LS IS) in
end
/-! ### lines of words and quoted texts -/
section
def itL (x : Bool × List Nat) : List Nat := if x.1 = true then wr x.2 else x.2
def lnI (xs : List (Bool × List Nat)) : List Nat := TL.joinL [32] (xs.map itL)
def GW (t : List Nat) : Prop := t ≠ [] ∧ ∀ c ∈ t, c ∉ WEN
theorem sgn_wen : ∀ c ∈ SGN, c ∈ WEN := by decide +kernel
theorem wen_q : (34 : Nat) ∈ WEN ∧ (32 : Nat) ∈ WEN := by decide +kernel
theorem tw_pre {p : Nat → Bool} {t r : List Nat} (h : ∀ c ∈ t, p c = true) (hr : r = [] ∨ ∃ d q, r = d :: q ∧ p d = false) : (t ++ r).takeWhile p = t := by
  induction t with
  | nil =>
    rcases hr with rfl | ⟨d, q, rfl, hd⟩
    · rfl
    · show (d :: q).takeWhile p = []
      rw [List.takeWhile_cons, hd]
      rfl
  | cons c t ih =>
    show (c :: (t ++ r)).takeWhile p = c :: t
    rw [List.takeWhile_cons, h c List.mem_cons_self, ih fun c hc => h c (List.mem_cons_of_mem _ hc)]
    rfl
theorem tokG_word {l t rest : List Nat} {b : Nat} (h : l.drop b = t ++ rest) (g : GW t) (hr : rest = [] ∨ ∃ r, rest = 32 :: r) : tokG l b = .inl (kWrd, t, b + t.length) := by
  have e : wordG l b = t := by
    unfold wordG
    rw [h]
    refine tw_pre (fun c hc => by rw [decide_eq_false (g.2 c hc)]; rfl) ?_
    rcases hr with z | ⟨r, z⟩
    · exact .inl z
    · exact .inr ⟨32, r, z, by rw [decide_eq_true wen_q.2]; rfl⟩
  cases t with
  | nil => exact absurd rfl g.1
  | cons c t =>
    have hc := g.2 c List.mem_cons_self
    unfold tokG
    rw [h]
    show (if c = 34 then _ else if c ∈ SGN then _ else _) = _
    rw [if_neg (fun z => hc (by rw [z]; exact wen_q.1)), if_neg (fun z => hc (sgn_wen c z)), e]
def GI (x : Bool × List Nat) : Prop := x.1 = true ∨ GW x.2
theorem itL_head {x : Bool × List Nat} (g : GI x) : ∃ c r, itL x = c :: r ∧ c ≠ 32 := by
  obtain ⟨b, t⟩ := x
  cases b with
  | true => exact ⟨34, _, rfl, by decide⟩
  | false =>
    rcases g with g | g
    · cases g
    · cases t with
      | nil => exact absurd rfl g.1
      | cons c r => exact ⟨c, r, rfl, fun z => g.2 c List.mem_cons_self (by rw [z]; exact wen_q.2)⟩
theorem tok_it {l rest : List Nat} {b : Nat} {x : Bool × List Nat} (h : l.drop b = itL x ++ rest) (g : GI x) (hr : rest = [] ∨ ∃ r, rest = 32 :: r) : ∃ k, tokG l b = .inl (k, x.2, b + (itL x).length) := by
  obtain ⟨b', t⟩ := x
  cases b' with
  | true => exact ⟨_, tokG_str h⟩
  | false =>
    rcases g with g | g
    · cases g
    · exact ⟨_, tokG_word h g hr⟩
theorem scan_its {l : List Nat} : ∀ (xs : List (Bool × List Nat)) (b : Nat) (acc : List Tok3), xs ≠ [] → (∀ x ∈ xs, GI x) → l.drop b = lnI xs → ∃ ts, scanG l l.length (skip l b) acc = .inl (acc ++ ts) ∧ ts.map (·.2.1) = xs.map (·.2)
  | [], _, _, h, _, _ => absurd rfl h
  | [x], b, acc, _, g, hd => by
    have hd : l.drop b = itL x := hd
    obtain ⟨c, r, hc, h32⟩ := itL_head (g x List.mem_cons_self)
    obtain ⟨k, ht⟩ := tok_it (rest := []) (by rw [List.append_nil]; exact hd) (g x List.mem_cons_self) (.inl rfl)
    have hx := hd.trans hc
    refine ⟨[(k, x.2, b + 1)], ?_, rfl⟩
    rw [scan_tok (lt_drop hx) (by rw [get_drop hx]; exact fun z => h32 (Option.some.inj z)) ht]
    have hl := congrArg List.length hd
    rw [List.length_drop] at hl
    exact scan_stop (Nat.le_trans (by omega) (skip_ge l _)) _ _
  | x :: y :: xs, b, acc, _, g, hd => by
    have hd : l.drop b = itL x ++ (32 :: lnI (y :: xs)) := hd
    obtain ⟨c, r, hc, h32⟩ := itL_head (g x List.mem_cons_self)
    obtain ⟨k, ht⟩ := tok_it hd (g x List.mem_cons_self) (.inr ⟨_, rfl⟩)
    have hx : l.drop b = c :: (r ++ (32 :: lnI (y :: xs))) := by rw [hd, hc]; rfl
    have d2 : l.drop (b + (itL x).length) = 32 :: lnI (y :: xs) := by rw [← List.drop_drop, hd, List.drop_left]
    have d3 : l.drop (b + (itL x).length + 1) = lnI (y :: xs) := by rw [← List.drop_drop, d2]; rfl
    obtain ⟨ts, h1, h2⟩ := scan_its (y :: xs) _ (acc ++ [(k, x.2, b + 1)]) (List.cons_ne_nil _ _) (fun z hz => g z (List.mem_cons_of_mem _ hz)) d3
    refine ⟨(k, x.2, b + 1) :: ts, ?_, by rw [List.map_cons, h2]; rfl⟩
    rw [scan_tok (lt_drop hx) (by rw [get_drop hx]; exact fun z => h32 (Option.some.inj z)) ht, skip_step (get_drop d2), h1, List.append_assoc]
    rfl
theorem scan_lnI {c : Nat} {t : List Nat} {xs : List (Bool × List Nat)} (h35 : c ≠ 35) (g : ∀ x ∈ (false, c :: t) :: xs, GI x) : ∃ ts, scan (lnI ((false, c :: t) :: xs)) = .inl ts ∧ ts.map (·.2.1) = (c :: t) :: xs.map (·.2) := by
  obtain ⟨ts, h1, h2⟩ := scan_its (l := lnI ((false, c :: t) :: xs)) ((false, c :: t) :: xs) 0 [] (List.cons_ne_nil _ _) g rfl
  refine ⟨ts, ?_, h2⟩
  obtain ⟨c', r, hc, h32⟩ := itL_head (g _ List.mem_cons_self)
  have ec : c' = c := (List.cons.inj (show c :: t = c' :: r from hc)).1.symm
  have hh : ∃ q, lnI ((false, c :: t) :: xs) = c :: q := by
    cases xs with
    | nil => exact ⟨t, rfl⟩
    | cons y ys => exact ⟨_, rfl⟩
  obtain ⟨q, hq⟩ := hh
  have hrem : isRem (lnI ((false, c :: t) :: xs)) = false := by
    unfold isRem
    rw [hq, List.dropWhile_cons, if_neg (by rw [← ec]; simpa using h32)]
    exact decide_eq_false fun z => h35 (Option.some.inj z)
  unfold scan
  rw [if_neg (by rw [hrem]; decide), h1]
  rfl
end
section
variable {P : Program} {w : World} {K : PySem.W.Frag} {mg : Str → Option Value} {base : Heap}
theorem dta_at {H : Hp} : ∀ {vs : List V} {ds : List PyData}, DtA H vs ds → ∀ (i : Nat) (v : V), vs[i]? = some v → ∃ d, ds[i]? = some d ∧ Dt H v d
  | _, _, .nil, i, v, h => by simp at h
  | _, _, .cons h r, 0, v, e => by
    cases Option.some.inj e
    exact ⟨_, rfl, h⟩
  | _, _, .cons h r, i + 1, v, e => dta_at r i v (by simpa using e)
theorem el_lcTok {σ : L2.St} {H : Hp} {tl : TE} {i j : Nat} {vs : List Nat} {ts : List Tok3} (h : EvD tl σ H (toksD ts)) (hz : ts.length ≤ 40000) (hw : ∀ a b c, wipe ((((wipe σ vs).set i a).set j b).set i c) vs = wipe σ vs)
    (hj : ∀ a b c, ((((wipe σ vs).set i (some a)).set j (some b)).set i (some c))[j]? = some (some b)) : EvL (tLc (iList K tl) (gTup K 3 (gCons (gName i) (gCons (gName j) (gCons (gName i) gNil)))) tYes (tVar j) vs) σ H ((ts.map (·.2.1)).map fun t => V.str (S t)) := fun H0 e Q q => h H0 e _ fun v H1 e1 hv => by
  cases hv with
  | @lst a xs ds hl hD =>
    have hlen : xs.length = ts.length := by rw [hD.len, List.length_map]
    refine ⟨a, rfl, ⟨xs, sq_of hl⟩, fun Dl hDl => ?_⟩
    refine lc_it (walk_list (xs := xs)) (Cw H1 (fun _ => true) (fun i => (ts[i]?.map fun x => V.str (S x.2.1)).getD .non) Dl) ⟨hDl, Ex.new hDl, upd_same⟩ (fun i H' _ p => sq_of (p.2.1 _ _ hl)) (fun n x H2 H3 hn p y => ?_) (fun H' p => q Dl H' (fresh_back e1 p.1) (e1.trans p.2.1) ?_)
    · obtain ⟨rfl, hy⟩ := y
      obtain ⟨d, hd, hx⟩ := dta_at hD n x hy
      rw [List.getElem?_map] at hd
      cases ht : ts[n]? with
      | none => rw [ht] at hd; cases hd
      | some t =>
        rw [ht] at hd
        cases Option.some.inj hd
        obtain ⟨b, rfl, hb⟩ := tokD_inv hx
        refine ⟨b, _, rfl, st_of (p.2.1 _ _ hb), rfl, _, _, rfl, _, _, rfl, _, _, rfl, rfl, hw _ _ _, cw_turn p (by omega) et_yes fun _ => ?_⟩
        refine ev_is (ev_var (hj _ _ _)) ?_
        rw [ht]
        rfl
    · have z := p.2.2
      rw [hlen, given_all] at z
      rw [List.map_map]
      exact z
def sp__parts (G : Gx K mg) : Sp := fun vs H Q _ => ∃ (l : List Nat) (ts : List Tok3), vs = [.str (S l)] ∧ l.length ≤ 30000 ∧ ts.length ≤ 1000 ∧ scan l = .inl ts ∧ Rl H ((ts.map (·.2.1)).map fun t => V.str (S t)) Q
theorem ok__parts {f : Addr} {C_Store C_Record C_Rule C_Book C_Job C_StoreReader : Addr} {fd : FuncData} (F : Fun K "_parts" "_parts" s__parts f fd) (T : Tx mg) (G : Gx K mg) (TC_Store : Tc_Store K C_Store) (TC_Record : Tc_Record K C_Record) (TC_Rule : Tc_Rule K C_Rule) (TC_Book : Tc_Book K C_Book) (TC_Job : Tc_Job K C_Job) (TC_StoreReader : Tc_StoreReader K C_StoreReader) (C_scan_line : Kn.ClX P w K mg base 6 "scan_line" (sp_scan_line G)) : FnOk P w K mg base CX0 7 f fd ["line"] (sp__parts G) := by
  refine F.ok sc__parts (fun vs H Q E h => ?_) (fun cdv A outer s H vs Q E hr h => ?_)
  · obtain ⟨l, ts, rfl, _⟩ := h
    rfl
  · obtain ⟨l, ts, rfl, hl, ht, hs, q⟩ := h
    refine ⟨_, (pss_one (ps_try_only (tb := fun W => (tRet (tLc (iList K (tCallS (sp_scan_line G) (WE W) (tCons (tC (.str (Str.ofString ""))) (tCons (tC (.int 0)) (tCons (tVar 0) tNil))))) (gTup K 3 (gCons (gName 1) (gCons (gName 2) (gCons (gName 1) gNil)))) tYes (tVar 2) [1, 2]))) (ts := fun a cls d => Kw.tNo) (Wout := (fun _ _ _ _ => False)) rfl rfl ⟨rfl, by decide, Or.inl G.g_InvalidRecipe⟩ takes0
      (fun W pn xe tk po => (pss_one (ps_ret (pe_lc (own := [("_", 1), ("text", 2)]) rfl sc__parts.nd (pi_list (Kn.pe_clX C_scan_line hr (by decide) (by rfl) tk (pa_cons pe_str (pa_cons pe_int (pa_cons (pv 0) pa_nil))))) (blkOk_by (own := [("_", 1), ("text", 2)]) (N := N__parts) (sc := defScope s__parts) (by decide +kernel)) (fun _ _ _ _ _ => pg_tup rfl (pgs_cons (pg_name (i := 1) sc__parts.nd rfl (Or.inl rfl)) (pgs_cons (pg_name (i := 2) sc__parts.nd rfl (Or.inl rfl)) (pgs_cons (pg_name (i := 1) sc__parts.nd rfl (Or.inl rfl)) pgs_nil)))) (fun _ _ _ _ _ => pts_nil) (fun _ _ _ _ _ => (pv 2))))))
      (fun a oe cls d pn hz hf => Kw.pss_never))), ?_⟩
    refine s_retL (el_lcTok (ts := ts) (evd_callS (vs := [.str (S []), .int ((0 : Nat) : Int), .str (S l)]) (ea_cons (ev_cS rfl) (ea_cons ev_c (ea_cons (ev_var rfl) ea_nil))) fun H1 e1 Q q => ⟨[], l, 0, rfl, ⟨by decide, hl, by decide, by decide⟩, fun x hx => ?_, fun c why hx => ?_⟩) (by omega) (fun _ _ _ => rfl) (fun _ _ _ => rfl)) q
    · cases hs.symm.trans hx
      exact q
    · cases hs.symm.trans hx
/-! ### lines of a saved store -/
def cLn (r k : List Nat) : List Nat := lnI [(false, lit "content"), (true, r), (true, k)]
def rLn (i : Nat) (r k : List Nat) : List Nat := lnI [(false, lit "record"), (false, TL.numL i), (true, r), (true, k)]
def nLn (i : Nat) : List Nat := lnI [(false, lit "records"), (false, TL.numL i)]
theorem num_ok : ∀ i < 64, (TL.numL i).length ≤ 2 ∧ Txt.isascii (S (TL.numL i)) = true ∧ Txt.isdigit (S (TL.numL i)) = true ∧ PySem.intText? (S (TL.numL i)) = some (i : Int) ∧ TL.numL i ≠ [] ∧ ∀ c ∈ TL.numL i, c ∉ WEN := by decide +kernel
theorem TxK.wr {l : List Nat} (h : TxK l) : (wr l).length ≤ 1382 := by
  rw [wr_len]
  have := fm_len l
  have := h.1
  omega
def sp__content_line (_ : PySem.W.Frag) : Sp := fun vs H Q _ => ∃ r k : List Nat, vs = [.str (S r), .str (S k)] ∧ TxK r ∧ TxK k ∧ Rt H (.str (S (cLn r k))) Q
theorem ok__content_line {f : Addr} {C_Store C_Record C_Rule C_Book C_Job C_StoreReader : Addr} {fd : FuncData} (F : Fun K "_content_line" "_content_line" s__content_line f fd) (T : Tx mg) (G : Gx K mg) (TC_Store : Tc_Store K C_Store) (TC_Record : Tc_Record K C_Record) (TC_Rule : Tc_Rule K C_Rule) (TC_Book : Tc_Book K C_Book) (TC_Job : Tc_Job K C_Job) (TC_StoreReader : Tc_StoreReader K C_StoreReader) (C_format_string : Kn.Cl P w K mg base 1 "format_string" (sp_format_string K)) : FnOk P w K mg base CX0 2 f fd ["right", "kept"] (sp__content_line K) := by
  refine F.ok sc__content_line (fun vs H Q E h => ?_) (fun cdv A outer s H vs Q E hr h => ?_)
  · obtain ⟨r, k, rfl, _⟩ := h
    rfl
  · obtain ⟨r, k, rfl, h1, h2, q⟩ := h
    refine ⟨_, (pss_one (ps_ret (pe_joined (.cons pe_str (.cons (pe_fmt (Kn.pe_cl C_format_string hr (by decide) (by rfl) (pa_cons (pv 0) pa_nil))) (.cons pe_str (.cons (pe_fmt (Kn.pe_cl C_format_string hr (by decide) (by rfl) (pa_cons (pv 1) pa_nil))) .nil))))))), ?_⟩
    have w1 := h1.wr
    have w2 := h2.wr
    refine s_ret (ev_is (ev_js (ls := [lit "content ", wr r, [32], wr k]) (.cons (ev_cS (l := lit "content ") rfl) (.cons (ev_fmtS (ev_c1 (a := r) (ea_cons (ev_var rfl) ea_nil) fun _ _ => (by show r.length ≤ 9000; have := h1.1; omega)) (by omega)) (.cons (ev_cS (l := [32]) rfl) (.cons (ev_fmtS (ev_c1 (a := k) (ea_cons (ev_var rfl) ea_nil) fun _ _ => (by show k.length ≤ 9000; have := h2.1; omega)) (by omega)) .nil)))) (by show 8 + ((wr r).length + (1 + ((wr k).length + 0))) ≤ 100000; omega)) ?_) q
    refine congrArg (fun z => V.str (S z)) ?_
    show lit "content " ++ (wr r ++ ([32] ++ (wr k ++ []))) = lit "content" ++ ([32] ++ (wr r ++ ([32] ++ wr k)))
    rw [List.append_nil, show lit "content " = lit "content" ++ [32] by decide +kernel, List.append_assoc]
def sp__row_line (_ : PySem.W.Frag) : Sp := fun vs H Q _ => ∃ (i : Nat) (r k : List Nat), vs = [.int (i : Int), .str (S r), .str (S k)] ∧ i < 64 ∧ TxK r ∧ TxK k ∧ Rt H (.str (S (rLn i r k))) Q
theorem ok__row_line {f : Addr} {C_Store C_Record C_Rule C_Book C_Job C_StoreReader : Addr} {fd : FuncData} (F : Fun K "_row_line" "_row_line" s__row_line f fd) (T : Tx mg) (G : Gx K mg) (TC_Store : Tc_Store K C_Store) (TC_Record : Tc_Record K C_Record) (TC_Rule : Tc_Rule K C_Rule) (TC_Book : Tc_Book K C_Book) (TC_Job : Tc_Job K C_Job) (TC_StoreReader : Tc_StoreReader K C_StoreReader) (C_format_string : Kn.Cl P w K mg base 1 "format_string" (sp_format_string K)) : FnOk P w K mg base CX0 2 f fd ["index", "right", "kept"] (sp__row_line K) := by
  refine F.ok sc__row_line (fun vs H Q E h => ?_) (fun cdv A outer s H vs Q E hr h => ?_)
  · obtain ⟨i, r, k, rfl, _⟩ := h
    rfl
  · obtain ⟨i, r, k, rfl, hi, h1, h2, q⟩ := h
    refine ⟨_, (pss_one (ps_ret (pe_joined (.cons pe_str (.cons (pe_fmt (pv 0)) (.cons pe_str (.cons (pe_fmt (Kn.pe_cl C_format_string hr (by decide) (by rfl) (pa_cons (pv 1) pa_nil))) (.cons pe_str (.cons (pe_fmt (Kn.pe_cl C_format_string hr (by decide) (by rfl) (pa_cons (pv 2) pa_nil))) .nil))))))))), ?_⟩
    have w1 := h1.wr
    have w2 := h2.wr
    have w3 := (num_ok i hi).1
    refine s_ret (ev_is (ev_js (ls := [lit "record ", TL.numL i, [32], wr r, [32], wr k]) (.cons (ev_cS (l := lit "record ") rfl) (.cons (ev_fmtI (ev_var rfl) (by omega)) (.cons (ev_cS (l := [32]) rfl) (.cons (ev_fmtS (ev_c1 (a := r) (ea_cons (ev_var rfl) ea_nil) fun _ _ => (by show r.length ≤ 9000; have := h1.1; omega)) (by omega)) (.cons (ev_cS (l := [32]) rfl) (.cons (ev_fmtS (ev_c1 (a := k) (ea_cons (ev_var rfl) ea_nil) fun _ _ => (by show k.length ≤ 9000; have := h2.1; omega)) (by omega)) .nil)))))) (by show 7 + ((TL.numL i).length + (1 + ((wr r).length + (1 + ((wr k).length + 0))))) ≤ 100000; omega)) ?_) q
    refine congrArg (fun z => V.str (S z)) ?_
    show lit "record " ++ (TL.numL i ++ ([32] ++ (wr r ++ ([32] ++ (wr k ++ []))))) = lit "record" ++ ([32] ++ (TL.numL i ++ ([32] ++ (wr r ++ ([32] ++ wr k)))))
    rw [List.append_nil, show lit "record " = lit "record" ++ [32] by decide +kernel, List.append_assoc]
def sp__count_line (_ : PySem.W.Frag) : Sp := fun vs H Q _ => ∃ i : Nat, vs = [.int (i : Int)] ∧ i < 64 ∧ Rt H (.str (S (nLn i))) Q
theorem ok__count_line {f : Addr} {C_Store C_Record C_Rule C_Book C_Job C_StoreReader : Addr} {fd : FuncData} (F : Fun K "_count_line" "_count_line" s__count_line f fd) (T : Tx mg) (G : Gx K mg) (TC_Store : Tc_Store K C_Store) (TC_Record : Tc_Record K C_Record) (TC_Rule : Tc_Rule K C_Rule) (TC_Book : Tc_Book K C_Book) (TC_Job : Tc_Job K C_Job) (TC_StoreReader : Tc_StoreReader K C_StoreReader)  : FnOk P w K mg base CX0 1 f fd ["count"] (sp__count_line K) := by
  refine F.ok sc__count_line (fun vs H Q E h => ?_) (fun cdv A outer s H vs Q E hr h => ?_)
  · obtain ⟨i, rfl, _⟩ := h
    rfl
  · obtain ⟨i, rfl, hi, q⟩ := h
    refine ⟨_, (pss_one (ps_ret (pe_joined (.cons pe_str (.cons (pe_fmt (pv 0)) .nil))))), ?_⟩
    have w3 := (num_ok i hi).1
    refine s_ret (ev_is (ev_js (ls := [lit "records ", TL.numL i]) (.cons (ev_cS (l := lit "records ") rfl) (.cons (ev_fmtI (ev_var rfl) (by omega)) .nil)) (by show 8 + ((TL.numL i).length + 0) ≤ 100000; omega)) ?_) q
    refine congrArg (fun z => V.str (S z)) ?_
    show lit "records " ++ (TL.numL i ++ []) = lit "records" ++ ([32] ++ TL.numL i)
    rw [List.append_nil, show lit "records " = lit "records" ++ [32] by decide +kernel, List.append_assoc]
def sp__is_number (_ : PySem.W.Frag) : Sp := fun vs H Q _ => ∃ i : Nat, vs = [.str (S (TL.numL i))] ∧ i < 64 ∧ Rt H (.bl true) Q
theorem ok__is_number {f : Addr} {C_Store C_Record C_Rule C_Book C_Job C_StoreReader : Addr} {fd : FuncData} (F : Fun K "_is_number" "_is_number" s__is_number f fd) (T : Tx mg) (G : Gx K mg) (TC_Store : Tc_Store K C_Store) (TC_Record : Tc_Record K C_Record) (TC_Rule : Tc_Rule K C_Rule) (TC_Book : Tc_Book K C_Book) (TC_Job : Tc_Job K C_Job) (TC_StoreReader : Tc_StoreReader K C_StoreReader)  : FnOk P w K mg base CX0 1 f fd ["word"] (sp__is_number K) := by
  refine F.ok sc__is_number (fun vs H Q E h => ?_) (fun cdv A outer s H vs Q E hr h => ?_)
  · obtain ⟨i, rfl, _⟩ := h
    rfl
  · obtain ⟨i, rfl, hi, q⟩ := h
    refine ⟨_, (pss_one (ps_ret (pe_and (pe_cmpR op_le (pe_callB Kn.cr_lenStr (by rfl) T.b_len PySem.boot_len (pa_cons (pv 0) pa_nil)) (C8.pe_gc (by rfl) T.c_MOST_DIGITS_saving) (nomark _)) (pe_and (pe_m0 PySem.F.slot_str_isascii PySem.F.type_str_isascii Kn.mt_asc (pv 0)) (pe_one (pe_m0 PySem.F.slot_str_isdigit PySem.F.type_str_isdigit Kn.mt_dig (pv 0))))))), ?_⟩
    obtain ⟨h1, h2, h3, _⟩ := num_ok i hi
    refine s_ret (v := .bl true) (ev_is (ev_andV (ev_op (ev_cb (ea_cons (ev_var rfl) ea_nil) (rc_lenS (by omega))) ev_c rv_le) fun _ => ev_andV (ev_asc (ev_var rfl)) fun _ => ev_dig (ev_var rfl)) ?_) q
    rw [h2, h3, decide_eq_true (show ((TL.numL i).length : Int) ≤ 4 by omega)]
    rfl
end

section
variable {P : Program} {w : World} {K : PySem.W.Frag} {mg : Str → Option Value} {base : Heap}
/-! ### the reader -/
def fldD (dt dr : Addr) (lk li : Int) (ct : V) : List (Str × V) := putF "count" ct (putF "last_index" (.int li) (putF "last_key" (.int lk) (putF "rows" (.ref dr) (putF "texts" (.ref dt) []))))
theorem fd_t (dt dr : Addr) (lk li : Int) (ct : V) : (fldD dt dr lk li ct).lookup ("texts" : Str) = some (.ref dt) := by rfl
theorem fd_r (dt dr : Addr) (lk li : Int) (ct : V) : (fldD dt dr lk li ct).lookup ("rows" : Str) = some (.ref dr) := by rfl
theorem fd_k (dt dr : Addr) (lk li : Int) (ct : V) : (fldD dt dr lk li ct).lookup ("last_key" : Str) = some (.int lk) := by rfl
theorem fd_i (dt dr : Addr) (lk li : Int) (ct : V) : (fldD dt dr lk li ct).lookup ("last_index" : Str) = some (.int li) := by rfl
theorem fd_c (dt dr : Addr) (lk li : Int) (ct : V) : (fldD dt dr lk li ct).lookup ("count" : Str) = some ct := by rfl
theorem fd_no (dt dr : Addr) (lk li : Int) (ct : V) {m : Str} (h1 : ¬ m = "count") (h2 : ¬ m = "last_index") (h3 : ¬ m = "last_key") (h4 : ¬ m = "rows") (h5 : ¬ m = "texts") : (fldD dt dr lk li ct).lookup m = none := by
  show List.lookup m [("texts", V.ref dt), ("rows", V.ref dr), ("last_key", V.int lk), ("last_index", V.int li), ("count", ct)] = none
  have e : ∀ x : Str, ¬ m = x → (m == x) = false := fun x h => beq_eq_false_iff_ne.mpr h
  simp only [List.lookup, e _ h1, e _ h2, e _ h3, e _ h4, e _ h5]
structure Rdr (C : Addr) (H : Hp) (p dt dr : Addr) (tx rs : List (Key × V)) (lk li : Int) (ct : V) : Prop where
  ob : ∃ dx, H p = some (.ins C dx (fldD dt dr lk li ct))
  t : H dt = some (.dK tx)
  r : H dr = some (.dK rs)
  nd : dt ≠ dr
theorem Rdr.mono {C : Addr} {H H1 : Hp} {p dt dr : Addr} {tx rs : List (Key × V)} {lk li : Int} {ct : V} (h : Rdr C H p dt dr tx rs lk li ct) (e : Ex H H1) : Rdr C H1 p dt dr tx rs lk li ct := by
  obtain ⟨dx, h1⟩ := h.ob
  exact ⟨⟨dx, e _ _ h1⟩, e _ _ h.t, e _ _ h.r, h.nd⟩
/-- all but the reader's own objects stay -/
def Kp3 (H H' : Hp) (p dt dr : Addr) : Prop := ∀ b o, H b = some o → b ≠ p → b ≠ dt → b ≠ dr → H' b = some o
def sp_StoreReader___init__ (C : Addr) (_ : PySem.W.Frag) : Sp := fun vs H Q _ => ∃ (p dx : Addr), vs = [.ref p] ∧ H p = some (.ins C dx []) ∧ ∀ (dt dr : Addr) (H' : Hp), H dt = none → H dr = none → Rdr C H' p dt dr [] [] 0 (-1) .non → (∀ b o, H b = some o → b ≠ p → H' b = some o) → Q .non H'
theorem ok_StoreReader___init__ {f : Addr} {C_Store C_Record C_Rule C_Book C_Job C_StoreReader : Addr} {fd : FuncData} (F : Fun K "__init__" "StoreReader.__init__" s_StoreReader___init__ f fd) (T : Tx mg) (G : Gx K mg) (TC_Store : Tc_Store K C_Store) (TC_Record : Tc_Record K C_Record) (TC_Rule : Tc_Rule K C_Rule) (TC_Book : Tc_Book K C_Book) (TC_Job : Tc_Job K C_Job) (TC_StoreReader : Tc_StoreReader K C_StoreReader)  : FnOk P w K mg base CX0 1 f fd ["self"] (sp_StoreReader___init__ C_StoreReader K) := by
  refine F.ok sc_StoreReader___init__ (fun vs H Q E h => ?_) (fun cdv A outer s H vs Q E hr h => ?_)
  · obtain ⟨p, dx, rfl, _⟩ := h
    rfl
  · obtain ⟨p, dx, rfl, hp, k⟩ := h
    refine ⟨_, (pss_cons (ps_fld (pv 0) pe_dnewK rfl)
      (pss_cons (ps_fld (pv 0) pe_dnewK rfl)
      (pss_cons (ps_fld (pv 0) pe_int rfl)
      (pss_cons (ps_fld (pv 0) (pe_un un_neg pe_int) rfl)
      (pss_one (ps_fld (pv 0) pe_non rfl)))))), ?_⟩
    intro d hd
    have npd : p ≠ d := ne_of_none hp hd
    refine ⟨_, rfl, p, C_StoreReader, dx, _, rfl, (by rw [upd_ne npd]; exact hp), TC_StoreReader.cl, TC_StoreReader.na_texts, (by show 0 < 1000; decide), ?_⟩
    intro r hr
    have npr : r ≠ p := fun z => by rw [z, upd_same] at hr; cases hr
    rw [upd_ne npr] at hr
    have nrd : r ≠ d := fun z => by rw [z, upd_same] at hr; cases hr
    rw [upd_ne nrd] at hr
    refine ⟨_, rfl, p, C_StoreReader, dx, _, rfl, (by rw [upd_ne npr.symm]; exact upd_same), TC_StoreReader.cl, TC_StoreReader.na_rows, (by show 1 < 1000; decide), ?_⟩
    refine ⟨_, rfl, p, C_StoreReader, dx, _, rfl, upd_same, TC_StoreReader.cl, TC_StoreReader.na_last_key, (by show 2 < 1000; decide), ?_⟩
    refine ⟨1, rfl, _, rfl, p, C_StoreReader, dx, _, rfl, upd_same, TC_StoreReader.cl, TC_StoreReader.na_last_index, (by show 3 < 1000; decide), ?_⟩
    refine ⟨_, rfl, p, C_StoreReader, dx, _, rfl, upd_same, TC_StoreReader.cl, TC_StoreReader.na_count, (by show 4 < 1000; decide), ?_⟩
    refine k d r _ hd hr ⟨⟨dx, upd_same⟩, ?_, ?_, nrd.symm⟩ fun b o hb hne => ?_
    · rw [upd_ne npd.symm, upd_ne npd.symm, upd_ne npd.symm, upd_ne npd.symm, upd_ne nrd.symm, upd_ne npd.symm, upd_same]
    · rw [upd_ne npr, upd_ne npr, upd_ne npr, upd_ne npr, upd_same]
    · rw [upd_ne hne, upd_ne hne, upd_ne hne, upd_ne hne, upd_ne (ne_of_none hb hr), upd_ne hne, upd_ne (ne_of_none hb hd)]
      exact hb
theorem rdr_set {C : Addr} {H H1 : Hp} {p dt dr dx : Addr} {tx rs : List (Key × V)} {lk li lk' li' : Int} {ct ct' : V} (R : Rdr C H p dt dr tx rs lk li ct) (e : Ex H H1) : Rdr C (L2.upd H1 p (.ins C dx (fldD dt dr lk' li' ct'))) p dt dr tx rs lk' li' ct' := by
  obtain ⟨dx', hp⟩ := R.ob
  have np1 : dt ≠ p := ne_of R.t hp (by intro z; cases z)
  have np2 : dr ≠ p := ne_of R.r hp (by intro z; cases z)
  exact ⟨⟨dx, upd_same⟩, by rw [upd_ne np1]; exact e _ _ R.t, by rw [upd_ne np2]; exact e _ _ R.r, R.nd⟩
def sp_StoreReader__read_count (C : Addr) (_ : PySem.W.Frag) : Sp := fun vs H Q _ => ∃ (p dt dr : Addr) (tx rs : List (Key × V)) (lk li : Int) (n : Nat), vs = [.ref p, .int (n : Int)] ∧ Rdr C H p dt dr tx rs lk li .non ∧ li < (n : Int) ∧
  ∀ H', Rdr C H' p dt dr tx rs lk li (.int (n : Int)) → Kp3 H H' p dt dr → Q (.bl true) H'
theorem ok_StoreReader__read_count {f : Addr} {C_Store C_Record C_Rule C_Book C_Job C_StoreReader : Addr} {fd : FuncData} (F : Fun K "_read_count" "StoreReader._read_count" s_StoreReader__read_count f fd) (T : Tx mg) (G : Gx K mg) (TC_Store : Tc_Store K C_Store) (TC_Record : Tc_Record K C_Record) (TC_Rule : Tc_Rule K C_Rule) (TC_Book : Tc_Book K C_Book) (TC_Job : Tc_Job K C_Job) (TC_StoreReader : Tc_StoreReader K C_StoreReader)  : FnOk P w K mg base CX0 1 f fd ["self", "count"] (sp_StoreReader__read_count C_StoreReader K) := by
  refine F.ok sc_StoreReader__read_count (fun vs H Q E h => ?_) (fun cdv A outer s H vs Q E hr h => ?_)
  · obtain ⟨p, dt, dr, tx, rs, lk, li, n, rfl, _⟩ := h
    rfl
  · obtain ⟨p, dt, dr, tx, rs, lk, li, n, rfl, R, hn, q⟩ := h
    refine ⟨_, (pss_cons (ps_if (pt_cmpR op_le (pv 1) (pe_fld (pv 0) rfl) (nomark _)) (pss_one (ps_ret pe_bl)) pss_nil)
      (pss_cons (ps_fld (pv 0) (pv 1) rfl)
      (pss_one (ps_ret pe_bl)))), ?_⟩
    obtain ⟨dx, hp⟩ := R.ob
    refine q_when (b := false) (et_is (et_test (ev_op (ev_var rfl) (ev_fld (ev_var rfl) hp TC_StoreReader.cl TC_StoreReader.na_last_index (fd_i dt dr lk li .non)) rv_le)) (decide_eq_false (by omega))) (fun z => nomatch z) fun _ H1 e1 => ?_
    have np1 : dt ≠ p := ne_of R.t hp (by intro z; cases z)
    have np2 : dr ≠ p := ne_of R.r hp (by intro z; cases z)
    refine ⟨_, rfl, _, rfl, p, C_StoreReader, dx, _, rfl, e1 _ _ hp, TC_StoreReader.cl, TC_StoreReader.na_count, (by show 5 < 1000; decide), ?_⟩
    dsimp only
    refine s_ret (v := .bl true) ev_c fun H2 e2 => ?_
    refine q H2 ((rdr_set R e1).mono e2) fun b o hb h1 _ _ => e2 _ _ ?_
    rw [upd_ne h1]
    exact e1 _ _ hb
def sp_StoreReader__read_content (C : Addr) (_ : PySem.W.Frag) : Sp := fun vs H Q _ => ∃ (p dt dr : Addr) (tx : List (Key × V)) (lk li : Int) (l m : List Nat), vs = [.ref p, .str (S l), .str (S m)] ∧ Rdr C H p dt dr tx [] lk li .non ∧ TxK l ∧ TxK m ∧ lk < ((key l : Nat) : Int) ∧ tx.length < 1000 ∧
  ∀ H', Rdr C H' p dt dr (putK tx (Sum.inl ((key l : Nat) : Int)) (.str (S m))) [] ((key l : Nat) : Int) li .non → Kp3 H H' p dt dr → Q (.bl true) H'
theorem ok_StoreReader__read_content {f : Addr} {C_Store C_Record C_Rule C_Book C_Job C_StoreReader : Addr} {fd : FuncData} (F : Fun K "_read_content" "StoreReader._read_content" s_StoreReader__read_content f fd) (T : Tx mg) (G : Gx K mg) (TC_Store : Tc_Store K C_Store) (TC_Record : Tc_Record K C_Record) (TC_Rule : Tc_Rule K C_Rule) (TC_Book : Tc_Book K C_Book) (TC_Job : Tc_Job K C_Job) (TC_StoreReader : Tc_StoreReader K C_StoreReader) (C_is_text : Kn.Cl P w K mg base 2 "is_text" (sp_is_text K)) (C_content_key : Kn.Cl P w K mg base 1 "content_key" (sp_content_key K)) : FnOk P w K mg base CX0 3 f fd ["self", "right", "kept"] (sp_StoreReader__read_content C_StoreReader K) := by
  refine F.ok sc_StoreReader__read_content (fun vs H Q E h => ?_) (fun cdv A outer s H vs Q E hr h => ?_)
  · obtain ⟨p, dt, dr, tx, lk, li, l, m, rfl, _⟩ := h
    rfl
  · obtain ⟨p, dt, dr, tx, lk, li, l, m, rfl, R, hl, hm, hk, hz, q⟩ := h
    refine ⟨_, (pss_cons (ps_if (PW.pt (pw_or (pt_cmpR (Kw.op_neL hr.units) (pe_fld (pv 0) rfl) pe_dnewK (nomark _)) (pw_or (pt_not (pt_val (Kn.pe_cl C_is_text hr (by decide) (by rfl) (pa_cons (pv 1) pa_nil)))) (pw_or1 (pt_not (pt_val (Kn.pe_cl C_is_text hr (by decide) (by rfl) (pa_cons (pv 2) pa_nil)))))))) (pss_one (ps_ret pe_bl)) pss_nil)
      (pss_cons (ps_set (i := 3) sc_StoreReader__read_content.nd rfl (Or.inl rfl) (Kn.pe_cl C_content_key hr (by decide) (by rfl) (pa_cons (pv 1) pa_nil)))
      (pss_cons (ps_if (pt_cmpR op_le (pv 3) (pe_fld (pv 0) rfl) (nomark _)) (pss_one (ps_ret pe_bl)) pss_nil)
      (pss_cons (ps_dput (hu_of hr) (pe_fld (pv 0) rfl) (pv 3) (pv 2) rfl)
      (pss_cons (ps_fld (pv 0) (pv 3) rfl)
      (pss_one (ps_ret pe_bl))))))), ?_⟩
    obtain ⟨dx, hp⟩ := R.ob
    have hl1 := hl.1
    have hm1 := hm.1
    refine q_when (b := false) (et_or (a := false) (b := false) (et_test fun H1 e1 Q q => ev_fld (ev_var rfl) (e1 _ _ hp) TC_StoreReader.cl TC_StoreReader.na_rows (fd_r dt dr lk li .non) H1 (Ex.refl H1) _ fun H2 e2 => fun d hd => ⟨1, dr, d, [], [], by decide, rfl, rfl, ?_, upd_same, rfl, (fun _ h => nomatch h), ?_⟩) fun _ => et_or (a := false) (b := false) (et_not (a := true) (et_B (ev_is (ev_c1 (a := l) (ea_cons (ev_var rfl) ea_nil) fun _ _ => (by show l.length ≤ 40000; omega)) (congrArg V.bl hl.2)))) fun _ => et_not (a := true) (et_B (ev_is (ev_c1 (a := m) (ea_cons (ev_var rfl) ea_nil) fun _ _ => (by show m.length ≤ 40000; omega)) (congrArg V.bl hm.2)))) (fun z => nomatch z) fun _ H1 e1 => ?_
    · have h2 := e2 _ _ (e1 _ _ R.r)
      rw [upd_ne (ne_of_none h2 hd)]
      exact h2
    · exact q _ (e2.trans (Ex.new hd))
    refine q_asg (v := .int ((key l : Nat) : Int)) (ev_c1 (a := l) (ea_cons (ev_var rfl) ea_nil) fun _ _ => hl.txl) fun H2 e2 => ?_
    have e12 := e1.trans e2
    refine q_when (b := false) (et_is (et_test (ev_op (ev_var rfl) (ev_fld (ev_var rfl) (e12 _ _ hp) TC_StoreReader.cl TC_StoreReader.na_last_key (fd_k dt dr lk li .non)) rv_le)) (decide_eq_false (by omega))) (fun z => nomatch z) fun _ H3 e3 => ?_
    have e13 := e12.trans e3
    have R3 := R.mono e13
    refine q_dputI (ev_var rfl) (fun H4 e4 => ev_fld (ev_var rfl) (e4 _ _ (e13 _ _ hp)) TC_StoreReader.cl TC_StoreReader.na_texts (fd_t dt dr lk li .non)) (fun H4 e4 => ev_var rfl) R3.t (by omega) fun H4 e4 => ?_
    have ntp : p ≠ dt := ne_of hp R.t (by intro z; cases z)
    have R4 : Rdr C_StoreReader (L2.upd H4 dt (.dK (putK tx (Sum.inl ((key l : Nat) : Int)) (.str (S m))))) p dt dr (putK tx (Sum.inl ((key l : Nat) : Int)) (.str (S m))) [] lk li .non := ⟨⟨dx, by rw [upd_ne ntp]; exact e4 _ _ (e13 _ _ hp)⟩, upd_same, by rw [upd_ne R.nd.symm]; exact e4 _ _ R3.r, R.nd⟩
    refine ⟨_, rfl, _, rfl, p, C_StoreReader, dx, _, rfl, (by rw [upd_ne ntp]; exact e4 _ _ (e13 _ _ hp)), TC_StoreReader.cl, TC_StoreReader.na_last_key, (by show 5 < 1000; decide), ?_⟩
    dsimp only
    refine s_ret (v := .bl true) ev_c fun H5 e5 => ?_
    refine q H5 ((rdr_set R4 (Ex.refl _)).mono e5) fun b o hb h1 h2 h3 => e5 _ _ ?_
    rw [upd_ne h1, upd_ne h2]
    exact e4 _ _ (e13 _ _ hb)
def sp_StoreReader__read_record (C : Addr) (_ : PySem.W.Frag) : Sp := fun vs H Q _ => ∃ (p dt dr : Addr) (tx rs : List (Key × V)) (lk li : Int) (i : Nat) (l m : List Nat), vs = [.ref p, .int (i : Int), .str (S l), .str (S m)] ∧ Rdr C H p dt dr tx rs lk li .non ∧ TxK l ∧ TxK m ∧ li < (i : Int) ∧ rs.length < 1000 ∧
  ∀ t H', H t = none → H' t = some (.tup [.int ((key l : Nat) : Int), .str (S m)]) → Rdr C H' p dt dr tx (putK rs (Sum.inl (i : Int)) (.ref t)) lk (i : Int) .non → Kp3 H H' p dt dr → Q (.bl true) H'
theorem q_dputIU {σ : L2.St} {H : Hp} {D : Ends} {tz : TS} {td ty tv : TE} {d : Addr} {k : Int} {kvs : List (Key × V)} {xs : List V} (hv : EvU tv σ H xs) (h1 : ∀ H1, Ex H H1 → Ev td σ H1 (.ref d)) (h2 : ∀ H1, Ex H H1 → Ev ty σ H1 (.int k)) (hd : H d = some (.dK kvs)) (hl : kvs.length < 100000)
    (q : ∀ t H1, H t = none → Ex H H1 → H1 t = some (.tup xs) → tz D σ (L2.upd H1 d (.dK (putK kvs (Sum.inl k) (.ref t))))) : tSeq (sDPut td ty tv) tz D σ H :=
  hv H (Ex.refl H) _ fun t H1 nt e1 ht => by
    have z := s_dputI (D := { D with nx := tz D }) (tv := tC (.ref t)) (ev_c (v := .ref t)) (fun H2 e2 => h1 H2 (e1.trans e2)) (fun H2 e2 => h2 H2 (e1.trans e2)) (e1 _ _ hd) hl fun H2 e2 => q t H2 nt (e1.trans e2) (e2 _ _ ht)
    exact z
theorem ok_StoreReader__read_record {f : Addr} {C_Store C_Record C_Rule C_Book C_Job C_StoreReader : Addr} {fd : FuncData} (F : Fun K "_read_record" "StoreReader._read_record" s_StoreReader__read_record f fd) (T : Tx mg) (G : Gx K mg) (TC_Store : Tc_Store K C_Store) (TC_Record : Tc_Record K C_Record) (TC_Rule : Tc_Rule K C_Rule) (TC_Book : Tc_Book K C_Book) (TC_Job : Tc_Job K C_Job) (TC_StoreReader : Tc_StoreReader K C_StoreReader) (C_is_text : Kn.Cl P w K mg base 2 "is_text" (sp_is_text K)) (C_content_key : Kn.Cl P w K mg base 1 "content_key" (sp_content_key K)) : FnOk P w K mg base CX0 3 f fd ["self", "index", "right", "kept"] (sp_StoreReader__read_record C_StoreReader K) := by
  refine F.ok sc_StoreReader__read_record (fun vs H Q E h => ?_) (fun cdv A outer s H vs Q E hr h => ?_)
  · obtain ⟨p, dt, dr, tx, rs, lk, li, i, l, m, rfl, _⟩ := h
    rfl
  · obtain ⟨p, dt, dr, tx, rs, lk, li, i, l, m, rfl, R, hl, hm, hk, hz, q⟩ := h
    refine ⟨_, (pss_cons (ps_if (PW.pt (pw_or (pt_cmpR op_le (pv 1) (pe_fld (pv 0) rfl) (nomark _)) (pw_or (pt_not (pt_val (Kn.pe_cl C_is_text hr (by decide) (by rfl) (pa_cons (pv 2) pa_nil)))) (pw_or1 (pt_not (pt_val (Kn.pe_cl C_is_text hr (by decide) (by rfl) (pa_cons (pv 3) pa_nil)))))))) (pss_one (ps_ret pe_bl)) pss_nil)
      (pss_cons (ps_dput (hu_of hr) (pe_fld (pv 0) rfl) (pv 1) (pe_tup (pa_cons (Kn.pe_cl C_content_key hr (by decide) (by rfl) (pa_cons (pv 2) pa_nil)) (pa_cons (pv 3) pa_nil))) rfl)
      (pss_cons (ps_fld (pv 0) (pv 1) rfl)
      (pss_one (ps_ret pe_bl))))), ?_⟩
    obtain ⟨dx, hp⟩ := R.ob
    have hl1 := hl.1
    have hm1 := hm.1
    refine q_when (b := false) (et_or (a := false) (b := false) (et_is (et_test (ev_op (ev_var rfl) (ev_fld (ev_var rfl) hp TC_StoreReader.cl TC_StoreReader.na_last_index (fd_i dt dr lk li .non)) rv_le)) (decide_eq_false (by omega))) fun _ => et_or (a := false) (b := false) (et_not (a := true) (et_B (ev_is (ev_c1 (a := l) (ea_cons (ev_var rfl) ea_nil) fun _ _ => (by show l.length ≤ 40000; omega)) (congrArg V.bl hl.2)))) fun _ => et_not (a := true) (et_B (ev_is (ev_c1 (a := m) (ea_cons (ev_var rfl) ea_nil) fun _ _ => (by show m.length ≤ 40000; omega)) (congrArg V.bl hm.2)))) (fun z => nomatch z) fun _ H1 e1 => ?_
    have R1 := R.mono e1
    refine q_dputIU (xs := [.int ((key l : Nat) : Int), .str (S m)]) (eu_tup (ea_cons (ev_c1 (a := l) (ea_cons (ev_var rfl) ea_nil) fun _ _ => hl.txl) (ea_cons (ev_var rfl) ea_nil)) (by show 2 ≤ 100000; decide)) (fun H4 e4 => ev_fld (ev_var rfl) (e4 _ _ (e1 _ _ hp)) TC_StoreReader.cl TC_StoreReader.na_rows (fd_r dt dr lk li .non)) (fun H4 e4 => ev_var rfl) R1.r (by omega) fun t H4 nt e4 ht => ?_
    have ntp : p ≠ dr := ne_of hp R.r (by intro z; cases z)
    have e14 := e1.trans e4
    have nt1 : t ≠ p := fun z => by rw [z, e1 _ _ hp] at nt; cases nt
    have nt2 : t ≠ dr := fun z => by rw [z, R1.r] at nt; cases nt
    have R4 : Rdr C_StoreReader (L2.upd H4 dr (.dK (putK rs (Sum.inl (i : Int)) (.ref t)))) p dt dr tx (putK rs (Sum.inl (i : Int)) (.ref t)) lk li .non := ⟨⟨dx, by rw [upd_ne ntp]; exact e14 _ _ hp⟩, by rw [upd_ne R.nd]; exact e14 _ _ R.t, upd_same, R.nd⟩
    refine ⟨_, rfl, _, rfl, p, C_StoreReader, dx, _, rfl, (by rw [upd_ne ntp]; exact e14 _ _ hp), TC_StoreReader.cl, TC_StoreReader.na_last_index, (by show 5 < 1000; decide), ?_⟩
    dsimp only
    refine s_ret (v := .bl true) ev_c fun H5 e5 => ?_
    refine q t H5 (fresh_back e1 nt) (e5 _ _ (by rw [upd_ne nt1, upd_ne nt2]; exact ht)) ((rdr_set R4 (Ex.refl _)).mono e5) fun b o hb h1 h2 h3 => e5 _ _ ?_
    rw [upd_ne h1, upd_ne h3]
    exact e14 _ _ hb
end

--SPLIT
section
variable {P : Program} {w : World} {K : PySem.W.Frag} {mg : Str → Option Value} {base : Heap}
theorem q_ixs {σ : L2.St} {H : Hp} {j pl : Addr} {xs : List V} {v : V} {i : Nat} {k : Int} (hj : σ[j]? = some (some (.ref pl))) (h : H pl = some (.lst xs)) (hk : k = (i : Int)) (hv : xs[i]? = some v) : Ev (tOp (rIxL K) (tVar j) (tC (.int k))) σ H v := by
  subst hk
  exact ev_op (ev_var hj) ev_c (rv_ixL (sq_of h) (atI_nat hv))
theorem et_ninT {σ : L2.St} {H : Hp} {ta tb : TE} {x : V} {xs : List V} (ha : Ev ta σ H x) (hb : EvU tb σ H xs) (hx : flatV x = true) (hs : xs.all flatV = true) : EvT (tTest (tOp (rIn K true) ta tb)) σ H (!inV x xs) :=
  et_test fun H1 e Q q => ha H1 e _ fun H2 e2 => hb H2 (e.trans e2) _ fun p H3 np e3 hp => rv_inT (neg := true) (st_of hp) hx hs H3 (Ex.refl _) Q fun H4 e4 => q H4 ((e2.trans e3).trans e4)
/-! ### the tokens of the lines -/
theorem gw_words : GW (lit "content") ∧ GW (lit "record") ∧ GW (lit "records") := by unfold GW; decide +kernel
theorem hd_words : lit "content" = 99 :: lit "ontent" ∧ lit "record" = 114 :: lit "ecord" ∧ lit "records" = 114 :: lit "ecords" := by decide +kernel
theorem gw_num {i : Nat} (h : i < 64) : GW (TL.numL i) := ⟨(num_ok i h).2.2.2.2.1, (num_ok i h).2.2.2.2.2⟩
theorem scan_c (l m : List Nat) : ∃ ts, scan (cLn l m) = .inl ts ∧ ts.map (·.2.1) = [lit "content", l, m] := by
  have g := gw_words.1
  unfold cLn
  rw [hd_words.1] at g ⊢
  exact scan_lnI (by decide) fun x hx => by
    rcases List.mem_cons.mp hx with rfl | hx
    · exact .inr g
    · rcases List.mem_cons.mp hx with rfl | hx
      · exact .inl rfl
      · rw [List.mem_singleton.mp hx]; exact .inl rfl
theorem scan_r {i : Nat} (hi : i < 64) (l m : List Nat) : ∃ ts, scan (rLn i l m) = .inl ts ∧ ts.map (·.2.1) = [lit "record", TL.numL i, l, m] := by
  have g := gw_words.2.1
  unfold rLn
  rw [hd_words.2.1] at g ⊢
  exact scan_lnI (by decide) fun x hx => by
    rcases List.mem_cons.mp hx with rfl | hx
    · exact .inr g
    · rcases List.mem_cons.mp hx with rfl | hx
      · exact .inr (gw_num hi)
      · rcases List.mem_cons.mp hx with rfl | hx
        · exact .inl rfl
        · rw [List.mem_singleton.mp hx]; exact .inl rfl
theorem scan_n {i : Nat} (hi : i < 64) : ∃ ts, scan (nLn i) = .inl ts ∧ ts.map (·.2.1) = [lit "records", TL.numL i] := by
  have g := gw_words.2.2
  unfold nLn
  rw [hd_words.2.2] at g ⊢
  exact scan_lnI (by decide) fun x hx => by
    rcases List.mem_cons.mp hx with rfl | hx
    · exact .inr g
    · rw [List.mem_singleton.mp hx]; exact .inr (gw_num hi)
theorem cLn_len {l m : List Nat} (h1 : TxK l) (h2 : TxK m) : (cLn l m).length ≤ 3000 := by
  have w1 := h1.wr
  have w2 := h2.wr
  show (lit "content" ++ ([32] ++ (wr l ++ ([32] ++ wr m)))).length ≤ 3000
  have h3 : (lit "content").length = 7 := by decide +kernel
  simp only [List.length_append, List.length_singleton]
  omega
theorem rLn_len {i : Nat} (hi : i < 64) {l m : List Nat} (h1 : TxK l) (h2 : TxK m) : (rLn i l m).length ≤ 3000 := by
  have w1 := h1.wr
  have w2 := h2.wr
  have w3 := (num_ok i hi).1
  show (lit "record" ++ ([32] ++ (TL.numL i ++ ([32] ++ (wr l ++ ([32] ++ wr m)))))).length ≤ 3000
  have h3 : (lit "record").length = 6 := by decide +kernel
  simp only [List.length_append, List.length_singleton]
  omega
theorem nLn_len {i : Nat} (hi : i < 64) : (nLn i).length ≤ 3000 := by
  have w3 := (num_ok i hi).1
  show (lit "records" ++ ([32] ++ TL.numL i)).length ≤ 3000
  have h3 : (lit "records").length = 7 := by decide +kernel
  simp only [List.length_append, List.length_singleton]
  omega
theorem map_len {ts : List Tok3} {ls : List (List Nat)} (h : ts.map (·.2.1) = ls) : ts.length = ls.length := by rw [← h, List.length_map]
def CaseC (C : Addr) (H : Hp) (p : Addr) (line : List Nat) (Q : VK) : Prop := ∃ (dt dr : Addr) (tx : List (Key × V)) (lk li : Int) (l m : List Nat), line = cLn l m ∧ Rdr C H p dt dr tx [] lk li .non ∧ TxK l ∧ TxK m ∧ lk < ((key l : Nat) : Int) ∧ tx.length < 1000 ∧
  ∀ H', Rdr C H' p dt dr (putK tx (Sum.inl ((key l : Nat) : Int)) (.str (S m))) [] ((key l : Nat) : Int) li .non → Kp3 H H' p dt dr → Q (.bl true) H'
def CaseR (C : Addr) (H : Hp) (p : Addr) (line : List Nat) (Q : VK) : Prop := ∃ (dt dr : Addr) (tx rs : List (Key × V)) (lk li : Int) (i : Nat) (l m : List Nat), line = rLn i l m ∧ i < 64 ∧ Rdr C H p dt dr tx rs lk li .non ∧ TxK l ∧ TxK m ∧ li < (i : Int) ∧ rs.length < 1000 ∧
  ∀ t H', H t = none → H' t = some (.tup [.int ((key l : Nat) : Int), .str (S m)]) → Rdr C H' p dt dr tx (putK rs (Sum.inl (i : Int)) (.ref t)) lk (i : Int) .non → Kp3 H H' p dt dr → Q (.bl true) H'
def CaseN (C : Addr) (H : Hp) (p : Addr) (line : List Nat) (Q : VK) : Prop := ∃ (dt dr : Addr) (tx rs : List (Key × V)) (lk li : Int) (n : Nat), line = nLn n ∧ n < 64 ∧ Rdr C H p dt dr tx rs lk li .non ∧ li < (n : Int) ∧
  ∀ H', Rdr C H' p dt dr tx rs lk li (.int (n : Int)) → Kp3 H H' p dt dr → Q (.bl true) H'
theorem Kp3.pre {H H1 H' : Hp} {p dt dr : Addr} (e : Ex H H1) (k : Kp3 H1 H' p dt dr) : Kp3 H H' p dt dr := fun b o hb h1 h2 h3 => k b o (e _ _ hb) h1 h2 h3
def sp_StoreReader_read (C : Addr) (_ : Gx K mg) : Sp := fun vs H Q _ => ∃ (p : Addr) (line : List Nat), vs = [.ref p, .str (S line)] ∧ (CaseC C H p line Q ∨ CaseR C H p line Q ∨ CaseN C H p line Q)
theorem ok_StoreReader_read {f : Addr} {C_Store C_Record C_Rule C_Book C_Job C_StoreReader : Addr} {fd : FuncData} (F : Fun K "read" "StoreReader.read" s_StoreReader_read f fd) (T : Tx mg) (G : Gx K mg) (TC_Store : Tc_Store K C_Store) (TC_Record : Tc_Record K C_Record) (TC_Rule : Tc_Rule K C_Rule) (TC_Book : Tc_Book K C_Book) (TC_Job : Tc_Job K C_Job) (TC_StoreReader : Tc_StoreReader K C_StoreReader) (C__parts : Kn.Cl P w K mg base 7 "_parts" (sp__parts G)) (C__content_line : Kn.Cl P w K mg base 2 "_content_line" (sp__content_line K)) (M_StoreReader__read_content : Kn.Mt P w K mg base 3 C_StoreReader "_read_content" (sp_StoreReader__read_content C_StoreReader K)) (C__is_number : Kn.Cl P w K mg base 1 "is_number_saving" (sp__is_number K)) (C__row_line : Kn.Cl P w K mg base 2 "_row_line" (sp__row_line K)) (M_StoreReader__read_record : Kn.Mt P w K mg base 3 C_StoreReader "_read_record" (sp_StoreReader__read_record C_StoreReader K)) (C__count_line : Kn.Cl P w K mg base 1 "_count_line" (sp__count_line K)) (M_StoreReader__read_count : Kn.Mt P w K mg base 1 C_StoreReader "_read_count" (sp_StoreReader__read_count C_StoreReader K)) : FnOk P w K mg base CX0 8 f fd ["self", "line"] (sp_StoreReader_read C_StoreReader G) := by
  refine F.ok sc_StoreReader_read (fun vs H Q E h => ?_) (fun cdv A outer s H vs Q E hr h => ?_)
  · obtain ⟨p, line, rfl, _⟩ := h
    rfl
  · obtain ⟨p, line, rfl, h⟩ := h
    refine ⟨_, (pss_cons (ps_if (pt_cmpR op_notN1 (pe_fld (pv 0) rfl) pe_non (nomark _)) (pss_one (ps_ret pe_bl)) pss_nil)
      (pss_cons (ps_set (i := 2) sc_StoreReader_read.nd rfl (Or.inl rfl) (Kn.pe_cl C__parts hr (by decide) (by rfl) (pa_cons (pv 1) pa_nil)))
      (pss_cons (ps_if (PW.pt (pw_and (pt_cmpR op_eq (pe_callB Kn.cr_lenSeq (by rfl) T.b_len PySem.boot_len (pa_cons (pv 2) pa_nil)) pe_int (nomark _)) (pw_and1 (pt_cmpR op_eq (Kn.pe_cl C__content_line hr (by decide) (by rfl) (pa_cons (pe_ix ix_list (pv 2) pe_int (fun _ _ => rfl)) (pa_cons (pe_ix ix_list (pv 2) pe_int (fun _ _ => rfl)) pa_nil))) (pv 1) (nomark _))))) (pss_one (ps_ret (Kn.pe_mt M_StoreReader__read_content hr (by decide) (pv 0) (pa_cons (pe_ix ix_list (pv 2) pe_int (fun _ _ => rfl)) (pa_cons (pe_ix ix_list (pv 2) pe_int (fun _ _ => rfl)) pa_nil))))) pss_nil)
      (pss_cons (ps_if (PW.pt (pw_or (pt_cmpR op_notIn_seq (pe_callB Kn.cr_lenSeq (by rfl) T.b_len PySem.boot_len (pa_cons (pv 2) pa_nil)) (pe_tup (pa_cons pe_int (pa_cons pe_int pa_nil))) rfl) (pw_or1 (pt_not (pt_val (Kn.pe_cl C__is_number hr (by decide) (by rfl) (pa_cons (pe_ix ix_list (pv 2) pe_int (fun _ _ => rfl)) pa_nil))))))) (pss_one (ps_ret pe_bl)) pss_nil)
      (pss_cons (ps_set (i := 3) sc_StoreReader_read.nd rfl (Or.inl rfl) (pe_callTy Kn.cr_intS (by rfl) T.b_int (by decide +kernel) (pa_cons (pe_ix ix_list (pv 2) pe_int (fun _ _ => rfl)) pa_nil)))
      (pss_cons (ps_if (PW.pt (pw_and (pt_cmpR op_eq (pe_callB Kn.cr_lenSeq (by rfl) T.b_len PySem.boot_len (pa_cons (pv 2) pa_nil)) pe_int (nomark _)) (pw_and1 (pt_cmpR op_eq (Kn.pe_cl C__row_line hr (by decide) (by rfl) (pa_cons (pv 3) (pa_cons (pe_ix ix_list (pv 2) pe_int (fun _ _ => rfl)) (pa_cons (pe_ix ix_list (pv 2) pe_int (fun _ _ => rfl)) pa_nil)))) (pv 1) (nomark _))))) (pss_one (ps_ret (Kn.pe_mt M_StoreReader__read_record hr (by decide) (pv 0) (pa_cons (pv 3) (pa_cons (pe_ix ix_list (pv 2) pe_int (fun _ _ => rfl)) (pa_cons (pe_ix ix_list (pv 2) pe_int (fun _ _ => rfl)) pa_nil)))))) pss_nil)
      (pss_one (ps_ret (pe_and (pe_cmpR op_eq (Kn.pe_cl C__count_line hr (by decide) (by rfl) (pa_cons (pv 3) pa_nil)) (pv 1) (nomark _)) (pe_one (Kn.pe_mt M_StoreReader__read_count hr (by decide) (pv 0) (pa_cons (pv 3) pa_nil)))))))))))), ?_⟩
    rcases h with ⟨dt, dr, tx, lk, li, l, m, rfl, R, h1, h2, hk, hz, q⟩ | ⟨dt, dr, tx, rs, lk, li, i, l, m, rfl, hi, R, h1, h2, hk, hz, q⟩ | ⟨dt, dr, tx, rs, lk, li, n, rfl, hi, R, hk, q⟩
    · obtain ⟨dx, hp⟩ := R.ob
      obtain ⟨ts, hs, ht⟩ := scan_c l m
      have hll := cLn_len h1 h2
      have htl := map_len ht
      refine q_when (b := false) (et_is (et_notN (ev_fld (ev_var rfl) hp TC_StoreReader.cl TC_StoreReader.na_count (fd_c dt dr lk li .non))) rfl) (fun z => nomatch z) fun _ H1 e1 => ?_
      refine q_asgL (xs := [lit "content", l, m].map fun t => V.str (S t)) (el_call' (ea_cons (ev_var rfl) ea_nil) fun H2 e2 Q q E => ⟨cLn l m, ts, rfl, by omega, by rw [htl]; show 3 ≤ 1000; decide, hs, by rw [ht]; exact q⟩) fun pl H2 npl e2 hpl => ?_
      have e12 := e1.trans e2
      have i1 : ∀ {H3 : Hp}, Ex H2 H3 → Ev (tOp (rIxL K) (tVar 2) (tC (.int 1))) [some (.ref p), some (.str (S (cLn l m))), some (.ref pl), none] H3 (.str (S l)) := fun e => q_ixs (i := 1) rfl (e _ _ hpl) rfl rfl
      have i2 : ∀ {H3 : Hp}, Ex H2 H3 → Ev (tOp (rIxL K) (tVar 2) (tC (.int 2))) [some (.ref p), some (.str (S (cLn l m))), some (.ref pl), none] H3 (.str (S m)) := fun e => q_ixs (i := 2) rfl (e _ _ hpl) rfl rfl
      refine q_when (b := true) (et_and (a := true) (b := true) (et_is (et_test (ev_op (ev_len (ev_var rfl) (sq_of hpl)) ev_c rv_eqI)) (decide_eq_true rfl)) fun _ => et_is (et_test (ev_op (ev_call' (z := .str (S (cLn l m))) (ea_cons (i1 (Ex.refl H2)) (ea_cons (i2 (Ex.refl H2)) ea_nil)) fun H3 e3 Q q E => ⟨l, m, rfl, h1, h2, q⟩) (ev_var rfl) rv_eqS)) (decide_eq_true rfl)) (fun _ H3 e3 => ?_) (fun z => nomatch z)
      have e13 := e12.trans e3
      refine ⟨_, rfl, p, dx, _, rfl, e13 _ _ hp, fd_no dt dr lk li .non (by decide +kernel) (by decide +kernel) (by decide +kernel) (by decide +kernel) (by decide +kernel), ?_⟩
      refine ea_cons (i1 e3) (ea_cons (i2 e3) ea_nil) H3 (Ex.refl _) _ fun H4 e4 => ?_
      exact ⟨p, dt, dr, tx, lk, li, l, m, rfl, R.mono (e13.trans e4), h1, h2, hk, hz, fun H' R' k => q H' R' (k.pre (e13.trans e4))⟩
    · obtain ⟨dx, hp⟩ := R.ob
      obtain ⟨ts, hs, ht⟩ := scan_r hi l m
      have hll := rLn_len hi h1 h2
      have htl := map_len ht
      refine q_when (b := false) (et_is (et_notN (ev_fld (ev_var rfl) hp TC_StoreReader.cl TC_StoreReader.na_count (fd_c dt dr lk li .non))) rfl) (fun z => nomatch z) fun _ H1 e1 => ?_
      refine q_asgL (xs := [lit "record", TL.numL i, l, m].map fun t => V.str (S t)) (el_call' (ea_cons (ev_var rfl) ea_nil) fun H2 e2 Q q E => ⟨rLn i l m, ts, rfl, by omega, by rw [htl]; show 4 ≤ 1000; decide, hs, by rw [ht]; exact q⟩) fun pl H2 npl e2 hpl => ?_
      have e12 := e1.trans e2
      refine q_when (b := false) (et_and (a := false) (b := false) (et_is (et_test (ev_op (ev_len (ev_var rfl) (sq_of hpl)) ev_c rv_eqI)) (decide_eq_false (by show ¬ (4 : Int) = 3; decide))) fun z => nomatch z) (fun z => nomatch z) fun _ H3 e3 => ?_
      refine q_when (b := false) (et_or (a := false) (b := false) (et_is (et_ninT (ev_len (ev_var rfl) (sq_of (e3 _ _ hpl))) (eu_tup (ea_cons ev_c (ea_cons ev_c ea_nil)) (by show 2 ≤ 100000; decide)) rfl rfl) (by show (!inV (.int 4) [.int 2, .int 4]) = false; decide)) fun _ => et_not (a := true) (et_B (ev_call' (ea_cons (q_ixs (i := 1) rfl (e3 _ _ hpl) rfl rfl) ea_nil) fun H4 e4 Q q E => ⟨i, rfl, hi, q⟩))) (fun z => nomatch z) fun _ H4 e4 => ?_
      have hpl4 := e4 _ _ (e3 _ _ hpl)
      refine q_asg (v := .int (i : Int)) (ev_intS (q_ixs (i := 1) rfl hpl4 rfl rfl) (num_ok i hi).2.2.2.1 (by have := (num_ok i hi).1; omega)) fun H5 e5 => ?_
      have hpl5 := e5 _ _ hpl4
      have i1 : ∀ {H6 : Hp}, Ex H5 H6 → Ev (tOp (rIxL K) (tVar 2) (tC (.int 2))) [some (.ref p), some (.str (S (rLn i l m))), some (.ref pl), some (.int (i : Int))] H6 (.str (S l)) := fun e => q_ixs (i := 2) rfl (e _ _ hpl5) rfl rfl
      have i2 : ∀ {H6 : Hp}, Ex H5 H6 → Ev (tOp (rIxL K) (tVar 2) (tC (.int 3))) [some (.ref p), some (.str (S (rLn i l m))), some (.ref pl), some (.int (i : Int))] H6 (.str (S m)) := fun e => q_ixs (i := 3) rfl (e _ _ hpl5) rfl rfl
      refine q_when (b := true) (et_and (a := true) (b := true) (et_is (et_test (ev_op (ev_len (ev_var rfl) (sq_of hpl5)) ev_c rv_eqI)) (decide_eq_true rfl)) fun _ => et_is (et_test (ev_op (ev_call' (z := .str (S (rLn i l m))) (ea_cons (ev_var rfl) (ea_cons (i1 (Ex.refl H5)) (ea_cons (i2 (Ex.refl H5)) ea_nil))) fun H6 e6 Q q E => ⟨i, l, m, rfl, hi, h1, h2, q⟩) (ev_var rfl) rv_eqS)) (decide_eq_true rfl)) (fun _ H6 e6 => ?_) (fun z => nomatch z)
      have e16 := (((e12.trans e3).trans e4).trans e5).trans e6
      refine ⟨_, rfl, p, dx, _, rfl, e16 _ _ hp, fd_no dt dr lk li .non (by decide +kernel) (by decide +kernel) (by decide +kernel) (by decide +kernel) (by decide +kernel), ?_⟩
      refine ea_cons (ev_var rfl) (ea_cons (i1 e6) (ea_cons (i2 e6) ea_nil)) H6 (Ex.refl _) _ fun H7 e7 => ?_
      exact ⟨p, dt, dr, tx, rs, lk, li, i, l, m, rfl, R.mono (e16.trans e7), h1, h2, hk, hz, fun t H' nt ht R' k => q t H' (fresh_back (e16.trans e7) nt) ht R' (k.pre (e16.trans e7))⟩
    · obtain ⟨dx, hp⟩ := R.ob
      obtain ⟨ts, hs, ht⟩ := scan_n hi
      have hll := nLn_len hi
      have htl := map_len ht
      refine q_when (b := false) (et_is (et_notN (ev_fld (ev_var rfl) hp TC_StoreReader.cl TC_StoreReader.na_count (fd_c dt dr lk li .non))) rfl) (fun z => nomatch z) fun _ H1 e1 => ?_
      refine q_asgL (xs := [lit "records", TL.numL n].map fun t => V.str (S t)) (el_call' (ea_cons (ev_var rfl) ea_nil) fun H2 e2 Q q E => ⟨nLn n, ts, rfl, by omega, by rw [htl]; show 2 ≤ 1000; decide, hs, by rw [ht]; exact q⟩) fun pl H2 npl e2 hpl => ?_
      have e12 := e1.trans e2
      refine q_when (b := false) (et_and (a := false) (b := false) (et_is (et_test (ev_op (ev_len (ev_var rfl) (sq_of hpl)) ev_c rv_eqI)) (decide_eq_false (by show ¬ (2 : Int) = 3; decide))) fun z => nomatch z) (fun z => nomatch z) fun _ H3 e3 => ?_
      refine q_when (b := false) (et_or (a := false) (b := false) (et_is (et_ninT (ev_len (ev_var rfl) (sq_of (e3 _ _ hpl))) (eu_tup (ea_cons ev_c (ea_cons ev_c ea_nil)) (by show 2 ≤ 100000; decide)) rfl rfl) (by show (!inV (.int 2) [.int 2, .int 4]) = false; decide)) fun _ => et_not (a := true) (et_B (ev_call' (ea_cons (q_ixs (i := 1) rfl (e3 _ _ hpl) rfl rfl) ea_nil) fun H4 e4 Q q E => ⟨n, rfl, hi, q⟩))) (fun z => nomatch z) fun _ H4 e4 => ?_
      have hpl4 := e4 _ _ (e3 _ _ hpl)
      refine q_asg (v := .int (n : Int)) (ev_intS (q_ixs (i := 1) rfl hpl4 rfl rfl) (num_ok n hi).2.2.2.1 (by have := (num_ok n hi).1; omega)) fun H5 e5 => ?_
      have hpl5 := e5 _ _ hpl4
      refine q_when (b := false) (et_and (a := false) (b := false) (et_is (et_test (ev_op (ev_len (ev_var rfl) (sq_of hpl5)) ev_c rv_eqI)) (decide_eq_false (by show ¬ (2 : Int) = 4; decide))) fun z => nomatch z) (fun z => nomatch z) fun _ H6 e6 => ?_
      have e16 := (((e12.trans e3).trans e4).trans e5).trans e6
      refine (ev_is (ev_op (ev_call' (z := .str (S (nLn n))) (ea_cons (ev_var rfl) ea_nil) fun H7 e7 Q q E => ⟨n, rfl, hi, q⟩) (ev_var rfl) rv_eqS) (show _ = V.bl true from congrArg V.bl (decide_eq_true rfl))) H6 (Ex.refl _) _ fun H7 e7 => ⟨true, rfl, ?_⟩
      have e17 := e16.trans e7
      refine ⟨_, rfl, p, dx, _, rfl, e17 _ _ hp, fd_no dt dr lk li .non (by decide +kernel) (by decide +kernel) (by decide +kernel) (by decide +kernel) (by decide +kernel), ?_⟩
      refine ea_cons (ev_var rfl) ea_nil H7 (Ex.refl _) _ fun H8 e8 => ?_
      exact ⟨p, dt, dr, tx, rs, lk, li, n, rfl, R.mono (e17.trans e8), hk, fun H' R' k => q H' R' (k.pre (e17.trans e8))⟩
end

--SPLIT
section
variable {P : Program} {w : World} {K : PySem.W.Frag} {mg : Str → Option Value} {base : Heap}
/-! ### what a store holds -/
abbrev Tx2 := List (List Nat × List Nat)
abbrev Rw2 := List (Option (List Nat × List Nat))
def kO (x : List Nat × List Nat) : Int := ((key x.1 : Nat) : Int)
def kvO (tx : Tx2) : List (Key × V) := tx.map fun x => (Sum.inl (kO x), V.str (S x.2))
structure TxOk (tx : Tx2) : Prop where
  a : ∀ x ∈ tx, TxK x.1 ∧ TxK x.2
  s : ∀ x ∈ tx, x.1.length ≤ 40 ∧ x.2.length ≤ 40
  n : (tx.map kO).Nodup
  z : tx.length < 60
def le2 (a b : List Nat × List Nat) : Bool := decide (kO a ≤ kO b)
def srt2 (tx : Tx2) : Tx2 := tx.mergeSort le2
theorem srt2_perm (tx : Tx2) : (srt2 tx).Perm tx := List.mergeSort_perm tx le2
theorem srt2_pw (tx : Tx2) : ((srt2 tx).map kO).Pairwise (· ≤ ·) := by
  refine List.pairwise_map.mpr (List.Pairwise.imp (fun h => of_decide_eq_true h) (List.pairwise_mergeSort (le := le2) (fun a b c h1 h2 => ?_) (fun a b => ?_) tx))
  · have h1 := of_decide_eq_true h1
    have h2 := of_decide_eq_true h2
    exact decide_eq_true (Int.le_trans h1 h2)
  · unfold le2
    rw [Bool.or_eq_true, decide_eq_true_eq, decide_eq_true_eq]
    omega
theorem srt2_len (tx : Tx2) : (srt2 tx).length = tx.length := (srt2_perm tx).length_eq
theorem TxOk.srt {tx : Tx2} (h : TxOk tx) : TxOk (srt2 tx) := ⟨fun x hx => h.a x ((srt2_perm tx).mem_iff.mp hx), fun x hx => h.s x ((srt2_perm tx).mem_iff.mp hx), ((srt2_perm tx).map kO).nodup_iff.mpr h.n, by rw [srt2_len]; exact h.z⟩
theorem valV_kvO : ∀ {tx : Tx2}, (tx.map kO).Nodup → ∀ x ∈ tx, valV (kvO tx) (Sum.inl (kO x) : Key) = some (.str (S x.2))
  | [], _, x, h => nomatch h
  | y :: r, hn, x, hx => by
    have hn' : (kO y :: r.map kO).Nodup := hn
    have e := List.nodup_cons.mp hn'
    show ((((Sum.inl (kO y), V.str (S y.2)) :: kvO r).find? fun p => decide (p.1 = (Sum.inl (kO x) : Key))).map Prod.snd) = _
    by_cases h : kO y = kO x
    · rw [List.find?_cons_of_pos (by simpa using h)]
      rcases List.mem_cons.mp hx with rfl | hm
      · rfl
      · exact absurd (List.mem_map.mpr ⟨x, hm, h.symm⟩) e.1
    · rw [List.find?_cons_of_neg (by simpa using h)]
      rcases List.mem_cons.mp hx with rfl | hm
      · exact absurd rfl h
      · exact valV_kvO e.2 x hm
def RwO (H : Hp) (v : V) (y : Option (List Nat × List Nat)) : Prop := match y with
  | none => v = .non
  | some (l, m) => ∃ a, v = .ref a ∧ H a = some (.tup [.int ((key l : Nat) : Int), .str (S m)])
theorem RwO.mono {H H1 : Hp} {v : V} {y : Option (List Nat × List Nat)} (h : RwO H v y) (e : Ex H H1) : RwO H1 v y := by
  match y, h with
  | none, h => exact h
  | some (l, m), ⟨a, h1, h2⟩ => exact ⟨a, h1, e _ _ h2⟩
structure RwOk (ys : Rw2) : Prop where
  a : ∀ l m, some (l, m) ∈ ys → TxK l ∧ TxK m
  z : ys.length < 14
theorem pair_at {α β : Type} {F : α → β → Prop} : ∀ {as : List α} {bs : List β}, Paired F as bs → ∀ (i : Nat) (a : α), as[i]? = some a → ∃ b, bs[i]? = some b ∧ F a b
  | _, _, .nil, i, a, h => by simp at h
  | _, _, .cons h r, 0, a, e => by
    cases Option.some.inj e
    exact ⟨_, rfl, h⟩
  | _, _, .cons h r, i + 1, a, e => pair_at r i a (by simpa using e)
theorem pair_len {α β : Type} {F : α → β → Prop} : ∀ {as : List α} {bs : List β}, Paired F as bs → as.length = bs.length
  | _, _, .nil => rfl
  | _, _, .cons _ r => congrArg (· + 1) (pair_len r)
def rowL : Rw2 → Nat → List (List Nat)
  | [], _ => []
  | none :: r, i => rowL r (i + 1)
  | some (l, m) :: r, i => rLn i l m :: rowL r (i + 1)
theorem rowL_snoc : ∀ (ys : Rw2) (y : Option (List Nat × List Nat)) (i : Nat), rowL (ys ++ [y]) i = rowL ys i ++ rowL [y] (i + ys.length)
  | [], y, i => rfl
  | none :: r, y, i => by
    show rowL (r ++ [y]) (i + 1) = rowL r (i + 1) ++ _
    rw [rowL_snoc r y (i + 1), List.length_cons]
    congr 2
    omega
  | some (l, m) :: r, y, i => by
    show rLn i l m :: rowL (r ++ [y]) (i + 1) = (rLn i l m :: rowL r (i + 1)) ++ _
    rw [rowL_snoc r y (i + 1), List.length_cons, List.cons_append]
    congr 3
    omega
theorem rowL_len : ∀ (ys : Rw2) (i : Nat), (rowL ys i).length ≤ ys.length
  | [], _ => Nat.le_refl 0
  | none :: r, i => Nat.le_succ_of_le (rowL_len r (i + 1))
  | some (_, _) :: r, i => Nat.succ_le_succ (rowL_len r (i + 1))
theorem rowL_mem : ∀ (ys : Rw2) (i : Nat) (x : List Nat), x ∈ rowL ys i → ∃ j l m, x = rLn j l m ∧ j < i + ys.length ∧ some (l, m) ∈ ys
  | [], _, x, h => nomatch h
  | none :: r, i, x, h => by
    obtain ⟨j, l, m, h1, h2, h3⟩ := rowL_mem r (i + 1) x h
    exact ⟨j, l, m, h1, by rw [List.length_cons]; omega, List.mem_cons_of_mem _ h3⟩
  | some (l, m) :: r, i, x, h => by
    have h : x ∈ rLn i l m :: rowL r (i + 1) := h
    rcases List.mem_cons.mp h with rfl | h
    · exact ⟨i, l, m, rfl, by rw [List.length_cons]; omega, List.mem_cons_self⟩
    · obtain ⟨j, l', m', h1, h2, h3⟩ := rowL_mem r (i + 1) x h
      exact ⟨j, l', m', h1, by rw [List.length_cons]; omega, List.mem_cons_of_mem _ h3⟩
def svL (tx : Tx2) (ys : Rw2) : List (List Nat) := ((srt2 tx).map (fun x : List Nat × List Nat => cLn x.1 x.2) ++ rowL ys 0) ++ [nLn ys.length]
def svT (tx : Tx2) (ys : Rw2) : List Nat := TL.joinL [10] (svL tx ys)
theorem svL_len {tx : Tx2} {ys : Rw2} (h1 : TxOk tx) (h2 : RwOk ys) : (svL tx ys).length ≤ 119 := by
  unfold svL
  have := rowL_len ys 0
  have := h1.z
  have := h2.z
  rw [List.length_append, List.length_append, List.length_map, srt2_len]
  show _ + _ + 1 ≤ 119
  omega
theorem svL_mem {tx : Tx2} {ys : Rw2} (h1 : TxOk tx) (h2 : RwOk ys) : ∀ x ∈ svL tx ys, x.length ≤ 3000 := by
  intro x hx
  unfold svL at hx
  rcases List.mem_append.mp hx with hx | hx
  · rcases List.mem_append.mp hx with hx | hx
    · obtain ⟨y, hy, rfl⟩ := List.mem_map.mp hx
      have := h1.srt.a y hy
      exact cLn_len this.1 this.2
    · obtain ⟨j, l, m, rfl, hj, hm⟩ := rowL_mem ys 0 x hx
      have := h2.z
      exact rLn_len (by omega) (h2.a l m hm).1 (h2.a l m hm).2
  · rw [List.mem_singleton.mp hx]
    have := h2.z
    exact nLn_len (by omega)
theorem sum_le' {n : Nat} : ∀ {ls : List (List Nat)}, (∀ l ∈ ls, l.length ≤ n) → (ls.map (·.length)).sum ≤ ls.length * n
  | [], _ => Nat.zero_le _
  | a :: r, h => by
    rw [List.map_cons, List.sum_cons, List.length_cons, Nat.succ_mul]
    have h1 := h a List.mem_cons_self
    have h2 := sum_le' fun l hl => h l (List.mem_cons_of_mem _ hl)
    omega
theorem svL_sum {tx : Tx2} {ys : Rw2} (h1 : TxOk tx) (h2 : RwOk ys) : ((svL tx ys).map (·.length)).sum + (svL tx ys).length * [10].length ≤ 16777216 := by
  have a := svL_len h1 h2
  have b := sum_le' (svL_mem h1 h2)
  have c : (svL tx ys).length * 3000 ≤ 119 * 3000 := Nat.mul_le_mul_right _ a
  show _ + _ * 1 ≤ _
  omega
theorem el_meth' {σ : L2.St} {H : Hp} {C p dx : Addr} {ta : TE} {fs : List (Str × V)} {m : Str} {sp : Sp} {E : XK} {t : TA} {vs xs : List V} (ha : Ev ta σ H (.ref p)) (ho : H p = some (.ins C dx fs)) (hm : fs.lookup m = none) (h : EvA t σ H vs) (hs : ∀ H1, Ex H H1 → ∀ Q : VK, Rl H1 xs Q → ∀ E, sp (.ref p :: (vs ++ [])) H1 Q E) : EvL (tMeth C m sp [] E ta t) σ H xs := fun H1 e Q q =>
  ha H1 e _ fun H2 e2 => ⟨p, dx, fs, rfl, (e.trans e2) _ _ ho, hm, h H2 (e.trans e2) _ fun H3 e3 => hs H3 ((e.trans e2).trans e3) Q (fun l H4 nl e4 hl => q l H4 (fresh_back (e2.trans e3) nl) ((e2.trans e3).trans e4) hl) E⟩
theorem el_catV' {σ : L2.St} {H : Hp} {ta tb : TE} {p : Addr} {xs ys : List V} (h1 : Ev ta σ H (.ref p)) (hp : H p = some (.lst xs)) (h2 : EvL tb σ H ys) (hz : xs.length + ys.length ≤ 100000) : EvL (tOp rCat ta tb) σ H (xs ++ ys) := fun H1 e Q q =>
  h1 H1 e _ fun H2 e2 => h2 H2 (e.trans e2) _ fun b H3 nb e3 hb => ⟨p, b, xs, ys, rfl, rfl, ((e.trans e2).trans e3) _ _ hp, hb, sz_of hz, fun l hl => q _ _ (fresh_back (e2.trans e3) hl) ((e2.trans e3).trans (Ex.new hl)) upd_same⟩
theorem q_forEnC {σ : L2.St} {H : Hp} {D : Ends} {tl : TE} {g : TG} {tu tz : TS} (h : tl σ H fun v H1 => tSeq (tFor (iEnum K (tCons (tC v) tNil)) g tu) tz D σ H1) : tSeq (tFor (iEnum K (tCons tl tNil)) g tu) tz D σ H := h
def sp_save_store (C CR : Addr) (_ : PySem.W.Frag) : Sp := fun vs H Q _ => ∃ (p d r : Addr) (tx : Tx2) (xs : List V) (ys : Rw2), vs = [.ref p] ∧ Sto C H p d r (kvO tx) xs ∧ TxOk tx ∧ RwOk ys ∧ Paired (RwO H) xs ys ∧ Rt H (.str (S (svT tx ys))) Q
theorem ok_save_store {f : Addr} {C_Store C_Record C_Rule C_Book C_Job C_StoreReader : Addr} {fd : FuncData} (F : Fun K "save_store" "save_store" s_save_store f fd) (T : Tx mg) (G : Gx K mg) (TC_Store : Tc_Store K C_Store) (TC_Record : Tc_Record K C_Record) (TC_Rule : Tc_Rule K C_Rule) (TC_Book : Tc_Book K C_Book) (TC_Job : Tc_Job K C_Job) (TC_StoreReader : Tc_StoreReader K C_StoreReader) (M_Store_kept_texts : Kn.Mt P w K mg base 1 C_Store "kept_texts" (sp_Store_kept_texts C_Store C_Record K)) (C__content_line : Kn.Cl P w K mg base 2 "_content_line" (sp__content_line K)) (C_key_text : Kn.Cl P w K mg base 2 "key_text" (sp_key_text K)) (M_Store_content_keys : Kn.Mt P w K mg base 1 C_Store "content_keys" (sp_Store_content_keys C_Store C_Record K)) (M_Store_kept_records : Kn.Mt P w K mg base 1 C_Store "kept_records" (sp_Store_kept_records C_Store C_Record K)) (C__row_line : Kn.Cl P w K mg base 2 "_row_line" (sp__row_line K)) (C__count_line : Kn.Cl P w K mg base 1 "_count_line" (sp__count_line K)) (M_Store_record_count : Kn.Mt P w K mg base 1 C_Store "record_count" (sp_Store_record_count C_Store C_Record K)) : FnOk P w K mg base CX0 4 f fd ["store"] (sp_save_store C_Store C_Record K) := by
  refine F.ok sc_save_store (fun vs H Q E h => ?_) (fun cdv A outer s H vs Q E hr h => ?_)
  · obtain ⟨p, d, r, tx, xs, ys, rfl, _⟩ := h
    rfl
  · obtain ⟨p, d, r, tx, xs, ys, rfl, T0, hx, hy, hp, q⟩ := h
    refine ⟨_, (pss_cons (ps_set (i := 1) sc_save_store.nd rfl (Or.inr rfl) (Kn.pe_mt0 M_Store_kept_texts hr (by decide) (pv 0)))
      (pss_cons (ps_setLc (i := 2) (own := [("key", 5)]) rfl sc_save_store.nd rfl rfl (sw_true rfl rfl rfl (by decide +kernel)) (pi_list (Kn.pe_mt0 M_Store_content_keys hr (by decide) (pv 0))) (blkOk_by (own := [("key", 5)]) (N := N_save_store) (sc := defScope s_save_store) (by decide +kernel)) (fun _ _ _ _ _ => pg_name (i := 5) sc_save_store.nd rfl (Or.inl rfl)) (fun _ _ _ _ _ => pts_nil) (fun _ _ _ _ _ => (Kn.pe_cl C__content_line hr (by decide) (by rfl) (pa_cons (Kn.pe_cl C_key_text hr (by decide) (by rfl) (pa_cons (pv 5) pa_nil)) (pa_cons (pe_dget (hu_of hr) (pv 1) (pv 5) (fun _ _ => rfl)) pa_nil)))))
      (pss_cons (ps_for PassesOwn.never rfl (pi_enum (by rfl) T.b_enumerate (pa_cons (Kn.pe_mt0 M_Store_kept_records hr (by decide) (pv 0)) pa_nil)) (pg_tup rfl (pgs_cons (pg_name (i := 3) sc_save_store.nd rfl (Or.inl rfl)) (pgs_cons (pg_name (i := 4) sc_save_store.nd rfl (Or.inl rfl)) pgs_nil))) (pss_one (ps_if (pt_cmpR op_notN1 (pv 4) pe_non (nomark _)) (pss_one (ps_expr (pe_bm PySem.F.plainAttrs_list PySem.F.slot_list_append PySem.F.type_list_append mt_append (pv 2) (pa_cons (Kn.pe_cl C__row_line hr (by decide) (by rfl) (pa_cons (pv 3) (pa_cons (Kn.pe_cl C_key_text hr (by decide) (by rfl) (pa_cons (pe_ix ix_tup (pv 4) pe_int (fun _ _ => rfl)) pa_nil)) (pa_cons (pe_ix ix_tup (pv 4) pe_int (fun _ _ => rfl)) pa_nil)))) pa_nil)))) pss_nil)))
      (pss_one (ps_ret (Kn.pe_joinN (pe_join pe_str (pe_op op_cat (pv 2) (pe_lst (pa_cons (Kn.pe_cl C__count_line hr (by decide) (by rfl) (pa_cons (Kn.pe_mt0 M_Store_record_count hr (by decide) (pv 0)) pa_nil)) pa_nil)))))))))), ?_⟩
    have no : ∀ {m : Str}, ¬ m = "_rows" → ¬ m = "_texts" → ¬ m = "journal" → (fldS d r).lookup m = none := fun h1 h2 h3 => fld_no d r h1 h2 h3
    obtain ⟨dx, h1⟩ := T0.ob
    have hks : (kvO tx).map (·.1) = (tx.map kO).map Sum.inl := by
      unfold kvO
      rw [List.map_map, List.map_map]
      rfl
    have hz := hx.z
    have hyz := hy.z
    have hxl := pair_len hp
    refine ⟨_, rfl, p, dx, _, rfl, h1, no (by decide +kernel) (by decide +kernel) (by decide +kernel), p, d, r, kvO tx, xs, rfl, T0, fun dn H1 ndn e1 hdn => ?_⟩
    have T1 := T0.mono e1
    try unfold gName
    dsimp only
    refine q_asgL (xs := ((srt2 tx).map fun x => cLn x.1 x.2).map fun l => V.str (S l)) ?_ fun pl H2 npl e2 hpl => ?_
    · rw [List.map_map]
      refine el_lcNM (ns := srt2 tx) (g := fun x => V.int (kO x)) (el_meth' (xs := (srt2 tx).map fun x => V.int (kO x)) (ev_var rfl) (e1 _ _ h1) (no (by decide +kernel) (by decide +kernel) (by decide +kernel)) ea_nil fun H2 e2 Q q E => ⟨p, d, r, kvO tx, xs, tx.map kO, rfl, T1.mono e2, hks, by rw [List.length_map]; omega, fun zs hperm hs => ?_⟩) (by rw [srt2_len]; omega) (fun _ => rfl) fun x hxm H2 e2 => ?_
      · rw [ints_uniq hs (srt2_pw tx) (hperm.trans ((srt2_perm tx).map kO).symm), List.map_map]
        exact q
      · have ht := hx.srt.a x hxm
        exact ev_call' (ea_cons (ev_c1 (a := x.1) (ea_cons (ev_var rfl) ea_nil) fun _ _ => ht.1) (ea_cons (ev_dgetI (ev_var rfl) (ev_var rfl) (e2 _ _ hdn) (valV_kvO hx.n x ((srt2_perm tx).mem_iff.mp hxm))) ea_nil)) fun H3 e3 Q q E => ⟨x.1, x.2, rfl, ht.1, ht.2, q⟩
    refine q_forEnC ?_
    refine el_meth' (xs := xs) (ev_var rfl) ((e1.trans e2) _ _ h1) (no (by decide +kernel) (by decide +kernel) (by decide +kernel)) ea_nil (fun H3 e3 Q q E => ⟨p, d, r, kvO tx, xs, rfl, (T1.mono e2).mono e3, q⟩) H2 (Ex.refl H2) _ fun a H3 na e3 ha => ?_
    have e13 := e2.trans e3
    refine q_forEn (ev_c (v := .ref a)) (sq_of ha) (fun n σ' H' => ∃ y3 y4, σ' = [some (.ref p), some (.ref dn), some (.ref pl), y3, y4, none] ∧ Ex H H' ∧ H' a = some (.lst xs) ∧ H' pl = some (.lst (((srt2 tx).map (fun x : List Nat × List Nat => cLn x.1 x.2) ++ rowL (ys.take n) 0).map fun l => V.str (S l)))) (fun H4 e4 => ⟨_, _, rfl, (e1.trans e13).trans e4, e4 _ _ ha, ?_⟩) (fun n _ _ _ ⟨_, _, _, _, h, _⟩ => sq_of h) ?_ ?_
    · show H4 pl = some (.lst (((srt2 tx).map (fun x : List Nat × List Nat => cLn x.1 x.2) ++ []).map fun l => V.str (S l)))
      rw [List.append_nil]
      exact e4 _ _ (e3 _ _ hpl)
    · rintro n x σ' H4 H5 hxn ⟨y3, y4, rfl, e4, ha4, hpl4⟩ e5
      obtain ⟨y, hyn, hR⟩ := pair_at hp n x hxn
      have hn : n < ys.length := (List.getElem?_eq_some_iff.mp hyn).1
      have htk : ys.take (n + 1) = ys.take n ++ [y] := by
        rw [List.take_add_one, hyn]
        rfl
      have hR5 := hR.mono (e4.trans e5)
      have hpl5 := e5 _ _ hpl4
      have hlen : (((srt2 tx).map (fun x : List Nat × List Nat => cLn x.1 x.2) ++ rowL (ys.take n) 0).map fun l => V.str (S l)).length < 100000 := by
        have z := rowL_len (ys.take n) 0
        rw [List.length_take] at z
        rw [List.length_map, List.length_append, List.length_map, srt2_len]
        omega
      have npl0 : H pl = none := fresh_back e1 npl
      match y, hyn, hR5 with
      | none, hyn, hR5 =>
        cases hR5
        refine s_when (b := false) (et_is (et_notN (ev_var rfl)) rfl) (fun z => nomatch z) fun _ H6 e6 => ⟨_, _, rfl, (e4.trans e5).trans e6, e6 _ _ (e5 _ _ ha4), ?_⟩
        rw [htk, rowL_snoc]
        show H6 pl = some (.lst (((srt2 tx).map (fun x : List Nat × List Nat => cLn x.1 x.2) ++ (rowL (ys.take n) 0 ++ [])).map fun l => V.str (S l)))
        rw [List.append_nil]
        exact e6 _ _ hpl5
      | some (l, m), hyn, hR5 =>
        obtain ⟨b, rfl, hb⟩ := hR5
        have ht := hy.a l m (List.mem_of_getElem? hyn)
        refine s_when (b := true) (et_is (et_notN (ev_var rfl)) rfl) (fun _ H6 e6 => ?_) (fun z => nomatch z)
        have hb6 := e6 _ _ hb
        refine s_app (v := .str (S (rLn n l m))) (e6 _ _ hpl5) (ev_var rfl) (ev_call' (ea_cons (ev_var rfl) (ea_cons (ev_c1 (a := l) (ea_cons (ev_op (ev_var rfl) ev_c (rv_ixT (st_of hb6) (atI_nat (j := 0) rfl))) ea_nil) fun _ _ => ht.1) (ea_cons (ev_op (ev_var rfl) ev_c (rv_ixT (st_of hb6) (atI_nat (j := 1) rfl))) ea_nil))) fun H7 e7 Q q E => ⟨n, l, m, rfl, by omega, ht.1, ht.2, q⟩) hlen fun H7 e7 => ⟨_, _, rfl, fun b' o hb' => ?_, ?_, ?_⟩
        · rw [upd_ne (ne_of_none hb' npl0)]
          exact e7 _ _ (e6 _ _ (e5 _ _ (e4 _ _ hb')))
        · have nap : a ≠ pl := fun z => by rw [z, hpl] at na; cases na
          rw [upd_ne nap]
          exact e7 _ _ (e6 _ _ (e5 _ _ ha4))
        · rw [htk, rowL_snoc, upd_same]
          refine congrArg (fun z => some (HO.lst z)) ?_
          rw [List.map_append, List.map_append, List.map_append, List.append_assoc]
          refine congrArg (_ ++ ·) (congrArg (_ ++ ·) ?_)
          rw [List.length_take, Nat.min_eq_left (by omega), Nat.zero_add]
          rfl
    · rintro σ' H4 ⟨y3, y4, rfl, e4, ha4, hpl4⟩
      have hT4 := T0.mono e4
      have hlens := svL_len hx hy
      have hall : ys.take xs.length = ys := by rw [hxl]; exact List.take_length
      have hpl4 : H4 pl = some (.lst (((srt2 tx).map (fun x : List Nat × List Nat => cLn x.1 x.2) ++ rowL ys 0).map fun l => V.str (S l))) := by rw [← hall]; exact hpl4
      refine s_ret (v := .str (S (svT tx ys))) (ev_join (s := [10]) (ys := svL tx ys) (ev_cS rfl) ?_ (svL_sum hx hy)) fun H5 e5 => q H5 (e4.trans e5)
      unfold svL at hlens ⊢
      rw [List.map_append]
      refine el_catV' (ev_var rfl) hpl4 (el_lst (ea_cons (ev_call' (ea_cons (ev_is (ev_meth (z := .int (xs.length : Int)) (ev_var rfl) (e4 _ _ h1) (no (by decide +kernel) (by decide +kernel) (by decide +kernel)) ea_nil fun H6 e6 Q q E => ⟨p, d, r, kvO tx, xs, rfl, hT4.mono e6, q⟩) (by rw [hxl])) ea_nil) fun H6 e6 Q q E => ⟨ys.length, rfl, by omega, q⟩) ea_nil) (by show 1 ≤ 100000; decide)) ?_
      rw [List.length_append] at hlens
      rw [List.length_map]
      show _ + 1 ≤ 100000
      have : ([nLn ys.length] : List (List Nat)).length = 1 := rfl
      omega
end

--SPLIT
section
variable {P : Program} {w : World} {K : PySem.W.Frag} {mg : Str → Option Value} {base : Heap}
/-! ### the lines of a saved store are read -/
def linesL (l : List Nat) : List (List Nat) := if l = [] then [] else cut1 10 l
def sp_lines_of (_ : PySem.W.Frag) : Sp := fun vs H Q _ => ∃ l : List Nat, vs = [.str (S l)] ∧ l.length ≤ 90000 ∧ Rl H ((linesL l).map fun p => V.str (S p)) Q
theorem el_ite {σ : L2.St} {H : Hp} {t : TT} {ta tb : TE} {b : Bool} {xs : List V} (h : EvT t σ H b) (h1 : b = true → EvL ta σ H xs) (h2 : b = false → EvL tb σ H xs) : EvL (tIf t ta tb) σ H xs := fun H1 e Q q => h H1 e _ fun H2 e2 => by
  cases b with
  | true => exact h1 rfl H2 (e.trans e2) Q fun p H3 n e3 hp => q p H3 (fresh_back e2 n) (e2.trans e3) hp
  | false => exact h2 rfl H2 (e.trans e2) Q fun p H3 n e3 hp => q p H3 (fresh_back e2 n) (e2.trans e3) hp
theorem ok_lines_of {f : Addr} {C_Store C_Record C_Rule C_Book C_Job C_StoreReader : Addr} {fd : FuncData} (F : Fun K "lines_of" "lines_of" s_lines_of f fd) (T : Tx mg) (G : Gx K mg) (TC_Store : Tc_Store K C_Store) (TC_Record : Tc_Record K C_Record) (TC_Rule : Tc_Rule K C_Rule) (TC_Book : Tc_Book K C_Book) (TC_Job : Tc_Job K C_Job) (TC_StoreReader : Tc_StoreReader K C_StoreReader)  : FnOk P w K mg base CX0 1 f fd ["text"] (sp_lines_of K) := by
  refine F.ok sc_lines_of (fun vs H Q E h => ?_) (fun cdv A outer s H vs Q E hr h => ?_)
  · obtain ⟨l, rfl, _⟩ := h
    rfl
  · obtain ⟨l, rfl, hl, q⟩ := h
    refine ⟨_, (pss_one (ps_ret (pe_ifExp (pt_cmpR op_eq (pv 0) pe_str (nomark _)) (pe_lst pa_nil) (pe_m1 PySem.F.slot_str_split PySem.F.type_str_split Kn.mt_split (pv 0) pe_str)))), ?_⟩
    refine s_retL (el_ite (b := decide (l = [])) (et_is (et_test (ev_op (ev_var rfl) (ev_cS (l := []) rfl) (rv_eq rfl))) (decide_eq_decide.2 ⟨fun z => S_inj (V.str.inj z), fun z => by rw [z]⟩)) (fun hb => ?_) (fun hb => ?_)) q
    · have hb := of_decide_eq_true hb
      subst hb
      exact el_lst ea_nil (by decide)
    · have hb := of_decide_eq_false hb
      unfold linesL
      rw [if_neg hb]
      exact el_split (ev_var rfl) (ev_cS (l := [10]) rfl) (by decide) hl
theorem lines_join {ps : List (List Nat)} (h : ∀ p ∈ ps, 10 ∉ p) (h2 : ∀ p ∈ ps, p ≠ []) : linesL (TL.joinL [10] ps) = ps := by
  cases ps with
  | nil => rfl
  | cons p r =>
    unfold linesL
    rw [if_neg (joinL_ne (h2 p List.mem_cons_self)), Kn.Rp.cut_join (List.cons_ne_nil _ _) h]
theorem wr_nl (t : List Nat) : 10 ∉ wr t := by
  have h : 10 ∉ fm t := fun z => by
    obtain ⟨c, _, hc⟩ := List.mem_flatMap.1 z
    unfold eO at hc
    by_cases h1 : c = 10
    · rw [if_pos h1] at hc; revert hc; decide
    · rw [if_neg h1] at hc
      split at hc
      · rcases List.mem_cons.1 hc with z | z
        · exact absurd z (by decide)
        · exact h1 (List.mem_singleton.1 z).symm
      · exact h1 (List.mem_singleton.1 hc).symm
  unfold wr
  intro z
  rcases List.mem_append.1 z with z | z
  · rcases List.mem_append.1 z with z | z
    · exact absurd (List.mem_singleton.1 z) (by decide)
    · exact h z
  · exact absurd (List.mem_singleton.1 z) (by decide)

theorem num_nl {i : Nat} (h : i < 64) : 10 ∉ TL.numL i := by
  have z : ∀ i < 64, 10 ∉ TL.numL i := by decide +kernel
  exact z i h
theorem words_nl : 10 ∉ lit "content" ∧ 10 ∉ lit "record" ∧ 10 ∉ lit "records" := by decide +kernel
theorem cLn_nl (l m : List Nat) : 10 ∉ cLn l m ∧ cLn l m ≠ [] := by
  have e : cLn l m = lit "content" ++ ([32] ++ (wr l ++ ([32] ++ wr m))) := rfl
  refine ⟨fun z => ?_, fun z => ?_⟩
  · rw [e] at z
    simp only [List.mem_append, List.mem_singleton] at z
    rcases z with z | z | z | z | z
    · exact words_nl.1 z
    · cases z
    · exact wr_nl _ z
    · cases z
    · exact wr_nl _ z
  · rw [e] at z
    exact gw_words.1.1 (List.append_eq_nil_iff.mp z).1
theorem rLn_nl {i : Nat} (h : i < 64) (l m : List Nat) : 10 ∉ rLn i l m ∧ rLn i l m ≠ [] := by
  have e : rLn i l m = lit "record" ++ ([32] ++ (TL.numL i ++ ([32] ++ (wr l ++ ([32] ++ wr m))))) := rfl
  refine ⟨fun z => ?_, fun z => ?_⟩
  · rw [e] at z
    simp only [List.mem_append, List.mem_singleton] at z
    rcases z with z | z | z | z | z | z | z
    · exact words_nl.2.1 z
    · cases z
    · exact num_nl h z
    · cases z
    · exact wr_nl _ z
    · cases z
    · exact wr_nl _ z
  · rw [e] at z
    exact gw_words.2.1.1 (List.append_eq_nil_iff.mp z).1
theorem nLn_nl {i : Nat} (h : i < 64) : 10 ∉ nLn i ∧ nLn i ≠ [] := by
  have e : nLn i = lit "records" ++ ([32] ++ TL.numL i) := rfl
  refine ⟨fun z => ?_, fun z => ?_⟩
  · rw [e] at z
    simp only [List.mem_append, List.mem_singleton] at z
    rcases z with z | z | z
    · exact words_nl.2.2 z
    · cases z
    · exact num_nl h z
  · rw [e] at z
    exact gw_words.2.2.1 (List.append_eq_nil_iff.mp z).1
theorem svL_nl {tx : Tx2} {ys : Rw2} (h2 : RwOk ys) : ∀ x ∈ svL tx ys, 10 ∉ x ∧ x ≠ [] := by
  intro x hx
  have := h2.z
  unfold svL at hx
  rcases List.mem_append.mp hx with hx | hx
  · rcases List.mem_append.mp hx with hx | hx
    · obtain ⟨y, hy, rfl⟩ := List.mem_map.mp hx
      exact cLn_nl _ _
    · obtain ⟨j, l, m, rfl, hj, hm⟩ := rowL_mem ys 0 x hx
      exact rLn_nl (by omega) l m
  · rw [List.mem_singleton.mp hx]
    exact nLn_nl (by omega)
theorem lines_sv {tx : Tx2} {ys : Rw2} (h2 : RwOk ys) : linesL (svT tx ys) = svL tx ys := lines_join (fun x hx => (svL_nl h2 x hx).1) fun x hx => (svL_nl h2 x hx).2
theorem join_len1 : ∀ (ls : List (List Nat)), (TL.joinL [10] ls).length ≤ (ls.map (·.length)).sum + ls.length
  | [] => Nat.zero_le _
  | [p] => by
    show p.length ≤ (p.length + 0) + 1
    omega
  | p :: q :: r => by
    have ih := join_len1 (q :: r)
    show (p ++ ([10] ++ TL.joinL [10] (q :: r))).length ≤ (p.length + ((q :: r).map (·.length)).sum) + ((q :: r).length + 1)
    rw [List.length_append, List.length_append, List.length_singleton]
    omega
theorem svT_len {tx : Tx2} {ys : Rw2} (h1 : TxOk tx) (h2 : RwOk ys) : (svT tx ys).length ≤ 90000 := by
  have a := join_len1 (svL tx ys)
  have b : ((svL tx ys).map (·.length)).sum + (svL tx ys).length ≤ 90000 := by
    have z1 := h1.z
    have z2 := h2.z
    have c1 : (((srt2 tx).map (fun x : List Nat × List Nat => cLn x.1 x.2)).map (·.length)).sum ≤ (srt2 tx).length * 180 := by
      have z := sum_le' (n := 180) (ls := (srt2 tx).map (fun x : List Nat × List Nat => cLn x.1 x.2)) fun l hl => by
        obtain ⟨y, hy, rfl⟩ := List.mem_map.mp hl
        have s := h1.srt.s y hy
        show (lit "content" ++ ([32] ++ (wr y.1 ++ ([32] ++ wr y.2)))).length ≤ 180
        have h3 : (lit "content").length = 7 := by decide +kernel
        have f1 := fm_len y.1
        have f2 := fm_len y.2
        simp only [List.length_append, List.length_singleton, wr_len]
        omega
      rw [List.length_map] at z
      exact z
    have c2 : ((rowL ys 0).map (·.length)).sum ≤ (rowL ys 0).length * 3000 := sum_le' fun l hl => by
      obtain ⟨j, l', m, rfl, hj, hm⟩ := rowL_mem ys 0 l hl
      exact rLn_len (by omega) (h2.a l' m hm).1 (h2.a l' m hm).2
    have c3 := rowL_len ys 0
    have c4 := nLn_len (i := ys.length) (by omega)
    have c5 := srt2_len tx
    have c6 : (rowL ys 0).length * 3000 ≤ 13 * 3000 := Nat.mul_le_mul_right _ (by omega)
    have c7 : (srt2 tx).length * 180 ≤ 59 * 180 := Nat.mul_le_mul_right _ (by omega)
    unfold svL
    rw [List.map_append, List.map_append, List.sum_append, List.sum_append, List.length_append, List.length_append, List.length_map]
    show _ + _ + ((nLn ys.length).length + 0) + (_ + _ + 1) ≤ 90000
    omega
  unfold svT
  omega
/-- the rows that are there, with their places -/
def idxL : Rw2 → Nat → List (Nat × List Nat × List Nat)
  | [], _ => []
  | none :: r, i => idxL r (i + 1)
  | some (l, m) :: r, i => (i, l, m) :: idxL r (i + 1)
theorem rowL_idx : ∀ (ys : Rw2) (i : Nat), rowL ys i = (idxL ys i).map fun e => rLn e.1 e.2.1 e.2.2
  | [], _ => rfl
  | none :: r, i => rowL_idx r (i + 1)
  | some (l, m) :: r, i => congrArg (_ :: ·) (rowL_idx r (i + 1))
theorem idxL_mem : ∀ (ys : Rw2) (i : Nat) (e : Nat × List Nat × List Nat), e ∈ idxL ys i → i ≤ e.1 ∧ e.1 < i + ys.length ∧ ys[e.1 - i]? = some (some e.2)
  | [], _, e, h => nomatch h
  | none :: r, i, e, h => by
    obtain ⟨h1, h2, h3⟩ := idxL_mem r (i + 1) e h
    refine ⟨by omega, by rw [List.length_cons]; omega, ?_⟩
    rw [show e.1 - i = (e.1 - (i + 1)) + 1 by omega]
    exact h3
  | some (l, m) :: r, i, e, h => by
    have h : e ∈ (i, l, m) :: idxL r (i + 1) := h
    rcases List.mem_cons.mp h with rfl | h
    · exact ⟨Nat.le_refl i, by rw [List.length_cons]; omega, by rw [Nat.sub_self]; rfl⟩
    · obtain ⟨h1, h2, h3⟩ := idxL_mem r (i + 1) e h
      refine ⟨by omega, by rw [List.length_cons]; omega, ?_⟩
      rw [show e.1 - i = (e.1 - (i + 1)) + 1 by omega]
      exact h3
theorem idxL_pw : ∀ (ys : Rw2) (i : Nat), ((idxL ys i).map (·.1)).Pairwise (· < ·)
  | [], _ => .nil
  | none :: r, i => idxL_pw r (i + 1)
  | some (l, m) :: r, i => by
    show (i :: (idxL r (i + 1)).map (·.1)).Pairwise (· < ·)
    refine List.pairwise_cons.mpr ⟨fun j hj => ?_, idxL_pw r (i + 1)⟩
    obtain ⟨e, he, rfl⟩ := List.mem_map.mp hj
    have := (idxL_mem r (i + 1) e he).1
    omega
end

section
variable {P : Program} {w : World} {K : PySem.W.Frag} {mg : Str → Option Value} {base : Heap}
/-! ### loading -/
theorem idxL_in : ∀ (ys : Rw2) (i j : Nat) (l m : List Nat), ys[j]? = some (some (l, m)) → (i + j, l, m) ∈ idxL ys i
  | [], _, _, _, _, h => by simp at h
  | none :: r, i, 0, l, m, h => by cases h
  | some (a, b) :: r, i, 0, l, m, h => by
    cases h
    exact List.mem_cons_self
  | none :: r, i, j + 1, l, m, h => by
    have z := idxL_in r (i + 1) j l m (by simpa using h)
    rw [show i + (j + 1) = i + 1 + j by omega]
    exact z
  | some (a, b) :: r, i, j + 1, l, m, h => by
    have z := idxL_in r (i + 1) j l m (by simpa using h)
    rw [show i + (j + 1) = i + 1 + j by omega]
    exact List.mem_cons_of_mem _ z
theorem pair_of {α β : Type} {F : α → β → Prop} : ∀ {as : List α} {bs : List β}, as.length = bs.length → (∀ (i : Nat) (a : α) (b : β), as[i]? = some a → bs[i]? = some b → F a b) → Paired F as bs
  | [], [], _, _ => .nil
  | a :: as, b :: bs, h, k => .cons (k 0 a b rfl rfl) (pair_of (Nat.succ.inj h) fun i x y h1 h2 => k (i + 1) x y (by simpa using h1) (by simpa using h2))
abbrev Ie := Nat × List Nat × List Nat
def RsO (H : Hp) (rs : List (Key × V)) (es : List Ie) : Prop := Paired (fun (kv : Key × V) (e : Ie) => kv.1 = Sum.inl (e.1 : Int) ∧ RwO H kv.2 (some e.2)) rs es
theorem RsO.keep {H H1 : Hp} {rs : List (Key × V)} {es : List Ie} (h : RsO H rs es) (k : ∀ b xs, H b = some (.tup xs) → H1 b = some (.tup xs)) : RsO H1 rs es := by
  induction h with
  | nil => exact .nil
  | cons z _ ih =>
    obtain ⟨h1, a, h2, h3⟩ := z
    exact .cons ⟨h1, a, h2, k _ _ h3⟩ ih
theorem putK_new {kvs : List (Key × V)} {k : Key} {v : V} (h : k ∉ kvs.map (·.1)) : putK kvs k v = kvs ++ [(k, v)] := by
  rcases keysK kvs k v with z | ⟨_, z⟩
  · unfold putK at z ⊢
    split
    · rename_i hh
      obtain ⟨x, hx, e⟩ := List.any_eq_true.mp hh
      exact absurd (List.mem_map.mpr ⟨x, hx, of_decide_eq_true e⟩) h
    · rfl
  · unfold putK
    split
    · rename_i hh
      obtain ⟨x, hx, e⟩ := List.any_eq_true.mp hh
      exact absurd (List.mem_map.mpr ⟨x, hx, of_decide_eq_true e⟩) h
    · rfl
theorem RsO.keys {H : Hp} : ∀ {rs : List (Key × V)} {es : List Ie}, RsO H rs es → rs.map (·.1) = es.map fun e => Sum.inl (e.1 : Int)
  | _, _, .nil => rfl
  | _, _, .cons h r => by
    rw [List.map_cons, List.map_cons, h.1]
    exact congrArg (_ :: ·) (RsO.keys r)
theorem RsO.snoc {H : Hp} : ∀ {rs : List (Key × V)} {es : List Ie} {kv : Key × V} {e : Ie}, RsO H rs es → kv.1 = Sum.inl (e.1 : Int) → RwO H kv.2 (some e.2) → RsO H (rs ++ [kv]) (es ++ [e])
  | _, _, _, _, .nil, h1, h2 => .cons ⟨h1, h2⟩ .nil
  | _, _, _, _, .cons h r, h1, h2 => .cons h (RsO.snoc r h1 h2)
theorem RsO.val {H : Hp} : ∀ {rs : List (Key × V)} {es : List Ie}, RsO H rs es → (es.map (·.1)).Pairwise (· < ·) → ∀ e ∈ es, ∃ v, valV rs (Sum.inl (e.1 : Int) : Key) = some v ∧ RwO H v (some e.2)
  | _, _, .nil, _, _, h => nomatch h
  | kv :: rs, f :: es, .cons h r, hp, e, he => by
    have hp' := List.pairwise_cons.mp hp
    show ∃ v, (((kv :: rs).find? fun p => decide (p.1 = (Sum.inl (e.1 : Int) : Key))).map Prod.snd) = some v ∧ _
    rcases List.mem_cons.mp he with rfl | hm
    · rw [List.find?_cons_of_pos (by simpa using h.1)]
      exact ⟨_, rfl, h.2⟩
    · have hlt := hp'.1 e.1 (List.mem_map.mpr ⟨e, hm, rfl⟩)
      rw [List.find?_cons_of_neg (by
        rw [h.1]
        simp only [decide_eq_true_eq]
        intro z
        have : (f.1 : Int) = (e.1 : Int) := Sum.inl.inj z
        exact (Int.ne_of_lt (Int.ofNat_lt.mpr hlt)) this)]
      exact RsO.val r hp'.2 e hm
theorem RsO.non {H : Hp} : ∀ {rs : List (Key × V)} {es : List Ie}, RsO H rs es → ∀ i : Nat, i ∉ es.map (·.1) → valV rs (Sum.inl (i : Int) : Key) = none
  | _, _, .nil, _, _ => rfl
  | kv :: rs, f :: es, .cons h r, i, hi => by
    show (((kv :: rs).find? fun p => decide (p.1 = (Sum.inl (i : Int) : Key))).map Prod.snd) = none
    rw [List.find?_cons_of_neg (by
      rw [h.1]
      simp only [decide_eq_true_eq]
      intro z
      have : (f.1 : Int) = (i : Int) := Sum.inl.inj z
      exact hi (List.mem_cons.mpr (.inl (Int.ofNat_inj.mp this).symm)))]
    exact RsO.non r i fun z => hi (List.mem_cons_of_mem _ z)
theorem q_forEn1V {σ : L2.St} {H : Hp} {D : Ends} {tu tz : TS} {tk : TA} {xs : List V} {tl : TE} {i j : Nat} {a : Addr} (h : Ev tl σ H (.ref a)) (hx : SqL K H a xs) (hk : ∀ H1, EvA tk σ H1 [.int 1]) (Pv : Nat → L2.St → Hp → Prop) (h0 : ∀ H1, Ex H H1 → Pv 0 σ H1) (hl : ∀ n σ' H', n ≤ xs.length → Pv n σ' H' → SqL K H' a xs)
    (hs : ∀ n x σ' H' H2, xs[n]? = some x → Pv n σ' H' → Ex H' H2 → tu { D with nx := Pv (n + 1), ct := Pv (n + 1), bk := tz D } ((σ'.set i (some (.int ((n : Int) + 1)))).set j (some x)) H2) (hd : ∀ σ' H', Pv xs.length σ' H' → tz D σ' H') :
    tSeq (tFor (iEnum1 K (tCons tl tNil) tk) (gTup K 2 (gCons (gName i) (gCons (gName j) gNil))) tu) tz D σ H :=
  h H (Ex.refl H) _ fun H1 e => hk H1 H1 (Ex.refl H1) _ fun H2 e2 => ⟨a, xs, rfl, rfl, ex_l (e.trans e2) hx, for_it (D := { D with nx := tz D }) walk_enum1 Pv (h0 H2 (e.trans e2)) hl (fun n v σ' H2 H3 hn p y => by
    obtain ⟨T, u, w, rfl, nT, rfl, hu, hw⟩ := y
    cases hu
    exact unp2 upd_same (hs n w σ' H2 _ hw p (Ex.new nT))) hd⟩
theorem ev_dget1I {σ : L2.St} {H : Hp} {td ty : TE} {d : Addr} {k : Int} {kvs : List (Key × V)} (h1 : Ev td σ H (.ref d)) (h2 : Ev ty σ H (.int k)) (hd : H d = some (.dK kvs)) : Ev (tDGet1 td ty) σ H ((valV kvs (Sum.inl k)).getD .non) := fun H1 e Q q =>
  h1 H1 e _ fun H2 e2 => ⟨d, rfl, .inl ⟨kvs, .inl ((e.trans e2) _ _ hd)⟩, h2 H2 (e.trans e2) _ fun H3 e3 => ⟨_, DGet.k (k := (Sum.inl k : Key)) (((e.trans e2).trans e3) _ _ hd), q H3 (e2.trans e3)⟩⟩
/-- where the reader is behind n lines -/
inductive Ph (sx : Tx2) (il : List Ie) (N : Nat) (n : Nat) (H : Hp) (tx rs : List (Key × V)) (lk li : Int) (ct : V) : Prop where
  | c (h : n < sx.length) (a : tx = kvO (sx.take n)) (b : rs = []) (d : ∀ x ∈ sx.drop n, lk < kO x) (e : li = -1) (f : ct = .non)
  | r (k : Nat) (h : n = sx.length + k) (hk : k ≤ il.length) (a : tx = kvO sx) (b : RsO H rs (il.take k)) (d : ∀ e ∈ il.drop k, li < (e.1 : Int)) (e : li < (N : Int)) (f : ct = .non)
  | n (h : n = sx.length + il.length + 1) (a : tx = kvO sx) (b : RsO H rs il) (f : ct = .int (N : Int))
theorem kvO_snoc (a : Tx2) (x : List Nat × List Nat) : kvO (a ++ [x]) = kvO a ++ [(Sum.inl (kO x), V.str (S x.2))] := by
  unfold kvO
  rw [List.map_append]
  rfl
theorem kO_pos (x : List Nat × List Nat) : 0 < kO x := by
  unfold kO
  have := Kn.Rp.key_pos x.1
  omega
theorem svL_at {tx : Tx2} {ys : Rw2} {n : Nat} {v : List Nat} (h : (svL tx ys)[n]? = some v) :
    (∃ x, (srt2 tx)[n]? = some x ∧ v = cLn x.1 x.2) ∨ (∃ k e, n = (srt2 tx).length + k ∧ (idxL ys 0)[k]? = some e ∧ v = rLn e.1 e.2.1 e.2.2) ∨ (n = (srt2 tx).length + (idxL ys 0).length ∧ v = nLn ys.length) := by
  unfold svL at h
  rw [rowL_idx] at h
  by_cases h1 : n < (srt2 tx).length
  · rw [List.append_assoc, List.getElem?_append_left (by rw [List.length_map]; exact h1), List.getElem?_map] at h
    obtain ⟨x, hx, rfl⟩ := Option.map_eq_some_iff.mp h
    exact .inl ⟨x, hx, rfl⟩
  · rw [List.append_assoc, List.getElem?_append_right (by rw [List.length_map]; omega), List.length_map] at h
    by_cases h2 : n - (srt2 tx).length < (idxL ys 0).length
    · rw [List.getElem?_append_left (by rw [List.length_map]; exact h2), List.getElem?_map] at h
      obtain ⟨x, hx, rfl⟩ := Option.map_eq_some_iff.mp h
      exact .inr (.inl ⟨_, x, by omega, hx, rfl⟩)
    · rw [List.getElem?_append_right (by rw [List.length_map]; omega), List.length_map] at h
      have h3 : n - (srt2 tx).length - (idxL ys 0).length = 0 := by
        have := (List.getElem?_eq_some_iff.mp h).1
        simpa using this
      rw [h3] at h
      exact .inr (.inr ⟨by omega, (Option.some.inj h).symm⟩)
theorem take_snoc {α : Type} {l : List α} {n : Nat} {x : α} (h : l[n]? = some x) : l.take (n + 1) = l.take n ++ [x] := by
  rw [List.take_add_one, h]
  rfl
theorem drop_at {α : Type} {l : List α} {n : Nat} {x : α} (h : l[n]? = some x) : l.drop n = x :: l.drop (n + 1) := by
  obtain ⟨hn, rfl⟩ := List.getElem?_eq_some_iff.mp h
  exact List.drop_eq_getElem_cons hn
theorem nd_new {tx : Tx2} {n : Nat} {x : List Nat × List Nat} (h : (tx.map kO).Nodup) (hx : tx[n]? = some x) : (Sum.inl (kO x) : Key) ∉ (kvO (tx.take n)).map (·.1) := fun hm => by
  unfold kvO at hm
  rw [List.map_map] at hm
  obtain ⟨y, hy, e⟩ := List.mem_map.mp hm
  have e : kO y = kO x := Sum.inl.inj e
  have z : ((tx.take n ++ (x :: tx.drop (n + 1))).map kO).Nodup := by
    rw [← drop_at hx, List.take_append_drop]
    exact h
  rw [List.map_append] at z
  exact (List.nodup_append.mp z).2.2 _ (List.mem_map.mpr ⟨y, hy, rfl⟩) _ (List.mem_map.mpr ⟨x, List.mem_cons_self, rfl⟩) e
theorem drop_lt {tx : Tx2} {n : Nat} {x : List Nat × List Nat} (h : (tx.map kO).Nodup) (hs : (tx.map kO).Pairwise (· ≤ ·)) (hx : tx[n]? = some x) : ∀ y ∈ tx.drop (n + 1), kO x < kO y := fun y hy => by
  have z1 : ((tx.take n ++ (x :: tx.drop (n + 1))).map kO).Nodup := by
    rw [← drop_at hx, List.take_append_drop]
    exact h
  have z2 : ((tx.take n ++ (x :: tx.drop (n + 1))).map kO).Pairwise (· ≤ ·) := by
    rw [← drop_at hx, List.take_append_drop]
    exact hs
  rw [List.map_append, List.map_cons] at z1 z2
  have a := (List.nodup_cons.mp (List.nodup_append.mp z1).2.1).1
  have b := (List.pairwise_cons.mp (List.pairwise_append.mp z2).2.1).1 (kO y) (List.mem_map.mpr ⟨y, hy, rfl⟩)
  have c : kO x ≠ kO y := fun e => a (List.mem_map.mpr ⟨y, hy, e.symm⟩)
  omega
end

--SPLIT
section
variable {P : Program} {w : World} {K : PySem.W.Frag} {mg : Str → Option Value} {base : Heap}
theorem s_notB {σ : L2.St} {H : Hp} {D : Ends} {te : TE} {tu : TS} (h : te σ H fun x H1 => ∃ c, x = .bl c ∧ if (!c) = true then tu D σ H1 else tNext D σ H1) : tIfS (tNot (tB te)) tu tNext D σ H := h
theorem Kp3.tup {H H' : Hp} {C p dt dr : Addr} {tx rs : List (Key × V)} {lk li : Int} {ct : V} (k : Kp3 H H' p dt dr) (R : Rdr C H p dt dr tx rs lk li ct) : ∀ b xs, H b = some (.tup xs) → H' b = some (.tup xs) := fun b xs hb => by
  obtain ⟨dx, hp⟩ := R.ob
  exact k b _ hb (ne_of hb hp (by intro z; cases z)) (ne_of hb R.t (by intro z; cases z)) (ne_of hb R.r (by intro z; cases z))
theorem kvO_len (tx : Tx2) : (kvO tx).length = tx.length := List.length_map _
theorem pair_rlen {H : Hp} {rs : List (Key × V)} {es : List Ie} (h : RsO H rs es) : rs.length = es.length := pair_len h
theorem idxL_len : ∀ (ys : Rw2) (i : Nat), (idxL ys i).length ≤ ys.length
  | [], _ => Nat.le_refl 0
  | none :: r, i => Nat.le_succ_of_le (idxL_len r (i + 1))
  | some (_, _) :: r, i => Nat.succ_le_succ (idxL_len r (i + 1))
theorem il_new {es : List Ie} {k : Nat} {e : Ie} (hp : (es.map (·.1)).Pairwise (· < ·)) (he : es[k]? = some e) : (Sum.inl (e.1 : Int) : Key) ∉ (es.take k).map (fun e : Ie => (Sum.inl (e.1 : Int) : Key)) := fun hm => by
  obtain ⟨y, hy, z⟩ := List.mem_map.mp hm
  have z : (y.1 : Int) = (e.1 : Int) := Sum.inl.inj z
  have z2 : ((es.take k ++ (e :: es.drop (k + 1))).map (·.1)).Pairwise (· < ·) := by
    rw [← drop_at he, List.take_append_drop]
    exact hp
  rw [List.map_append, List.map_cons] at z2
  have a : y.1 < e.1 := (List.pairwise_append.mp z2).2.2 y.1 (List.mem_map.mpr ⟨y, hy, rfl⟩) e.1 List.mem_cons_self
  exact (Int.ne_of_lt (Int.ofNat_lt.mpr a)) z
theorem il_lt {es : List Ie} {k : Nat} {e : Ie} (hp : (es.map (·.1)).Pairwise (· < ·)) (he : es[k]? = some e) : ∀ y ∈ es.drop (k + 1), (e.1 : Int) < (y.1 : Int) := fun y hy => by
  have z2 : ((es.take k ++ (e :: es.drop (k + 1))).map (·.1)).Pairwise (· < ·) := by
    rw [← drop_at he, List.take_append_drop]
    exact hp
  rw [List.map_append, List.map_cons] at z2
  have a : e.1 < y.1 := (List.pairwise_cons.mp (List.pairwise_append.mp z2).2.1).1 y.1 (List.mem_map.mpr ⟨y, hy, rfl⟩)
  exact Int.ofNat_lt.mpr a
def sp_load_store (C CD : Addr) (_ : Gx K mg) : Sp := fun vs H Q _ => ∃ (tx : Tx2) (ys : Rw2), vs = [.str (S (svT tx ys))] ∧ TxOk tx ∧ RwOk ys ∧ ∀ (p d r : Addr) (xs : List V) (H' : Hp), H p = none → H d = none → H r = none → Sto C H' p d r (kvO (srt2 tx)) xs → Paired (RwO H') xs ys → Ex H H' → Q (.ref p) H'
theorem ok_load_store {f : Addr} {C_Store C_Record C_Rule C_Book C_Job C_StoreReader : Addr} {fd : FuncData} (F : Fun K "load_store" "load_store" s_load_store f fd) (T : Tx mg) (G : Gx K mg) (TC_Store : Tc_Store K C_Store) (TC_Record : Tc_Record K C_Record) (TC_Rule : Tc_Rule K C_Rule) (TC_Book : Tc_Book K C_Book) (TC_Job : Tc_Job K C_Job) (TC_StoreReader : Tc_StoreReader K C_StoreReader) (M_StoreReader : Kn.Mkr P w K mg base 1 "StoreReader" C_StoreReader (sp_StoreReader___init__ C_StoreReader K)) (C_lines_of : Kn.Cl P w K mg base 1 "lines_of" (sp_lines_of K)) (M_StoreReader_read : Kn.Mt P w K mg base 8 C_StoreReader "read" (sp_StoreReader_read C_StoreReader G)) (M_Store : Kn.MkrD P w K mg base 1 "Store" C_Store (sp_Store___init__ C_Store K) [.non]) (M_Store_fill_from : Kn.Mt P w K mg base 1 C_Store "fill_from" (sp_Store_fill_from C_Store C_Record K)) : FnOk P w K mg base CX0 9 f fd ["text"] (sp_load_store C_Store C_StoreReader G) := by
  refine F.ok sc_load_store (fun vs H Q E h => ?_) (fun cdv A outer s H vs Q E hr h => ?_)
  · obtain ⟨tx, ys, rfl, _⟩ := h
    rfl
  · obtain ⟨tx, ys, rfl, hx, hy, q⟩ := h
    refine ⟨_, (pss_cons (ps_set (i := 1) sc_load_store.nd rfl (Or.inr rfl) (Kn.pe_mkr0 M_StoreReader hr (by decide) (by rfl)))
      (pss_cons (ps_set (i := 2) sc_load_store.nd rfl (Or.inl rfl) (Kn.pe_cl C_lines_of hr (by decide) (by rfl) (pa_cons (pv 0) pa_nil)))
      (pss_cons (ps_for PassesOwn.never rfl (Kw.pi_enum1 (by rfl) T.b_enumerate (pa_cons (pv 2) pa_nil) (pk_cons pe_int pk_nil)) (pg_tup rfl (pgs_cons (pg_name (i := 3) sc_load_store.nd rfl (Or.inl rfl)) (pgs_cons (pg_name (i := 4) sc_load_store.nd rfl (Or.inl rfl)) pgs_nil))) (pss_one (ps_if (pt_not (pt_val (Kn.pe_mt M_StoreReader_read hr (by decide) (pv 1) (pa_cons (pv 4) pa_nil)))) (pss_one Kw.ps_never) pss_nil)))
      (pss_cons (ps_if (pt_cmpR op_isN1 (pe_fld (pv 1) rfl) pe_non (nomark _)) (pss_one Kw.ps_never) pss_nil)
      (pss_cons (ps_set (i := 5) sc_load_store.nd rfl (Or.inl rfl) (Kn.pe_mkrD0 M_Store hr (by decide) (by rfl)))
      (pss_cons (ps_expr (Kn.pe_mt M_Store_fill_from hr (by decide) (pv 5) (pa_cons (pe_fld (pv 1) rfl) (pa_cons (pe_lc (own := [("index", 6)]) rfl sc_load_store.nd (pi_range1 rfl T.b_range (pa_cons (pe_fld (pv 1) rfl) pa_nil)) (blkOk_by (own := [("index", 6)]) (N := N_load_store) (sc := defScope s_load_store) (by decide +kernel)) (fun _ _ _ _ _ => pg_name (i := 6) sc_load_store.nd rfl (Or.inl rfl)) (fun _ _ _ _ _ => pts_nil) (fun _ _ _ _ _ => (by (refine pe_dget1 (td := tFld K (tVar 1) "rows") (ty := tVar 6) (hu_of hr) ?_ ?_ ?_); (exact pe_fld (pv 1) rfl); (exact (pv 6)); exact ⟨rfl, rfl, rfl, rfl⟩))) pa_nil))))
      (pss_one (ps_ret (pv 5))))))))), ?_⟩
    intro rp dx1 np1 nx1 ne1
    refine ⟨rp, dx1, rfl, upd_same, fun dt dr H1 ndt ndr R1 k1 => ⟨rfl, ?_⟩⟩
    have e01 : Ex H H1 := fun b o hb => k1 b o (by rw [upd_ne (ne_of_none hb np1), upd_ne (ne_of_none hb nx1)]; exact hb) (ne_of_none hb np1)
    have ndt0 : H dt = none := upd_none (upd_none ndt)
    have ndr0 : H dr = none := upd_none (upd_none ndr)
    have S1 := hx.srt
    have P1 := srt2_pw tx
    have I1 := idxL_pw ys 0
    have IM := idxL_mem ys 0
    have hyz := hy.z
    have hxz := hx.z
    have hil := idxL_len ys 0
    have hsl := srt2_len tx
    refine q_asgL (xs := (svL tx ys).map fun l => V.str (S l)) (el_call' (ea_cons (ev_var rfl) ea_nil) fun H2 e2 Q q E => ⟨svT tx ys, rfl, svT_len hx hy, by rw [lines_sv hy]; exact q⟩) fun ll H2 nll e2 hll => ?_
    have hlrp : ll ≠ rp := fun z => by obtain ⟨_, h⟩ := R1.ob; rw [z, h] at nll; cases nll
    have hldt : ll ≠ dt := fun z => by rw [z, R1.t] at nll; cases nll
    have hldr : ll ≠ dr := fun z => by rw [z, R1.r] at nll; cases nll
    have fin : ∀ {H5 H6 H' : Hp}, Ex H H5 → Ex H5 H6 → H5 ll = some (.lst ((svL tx ys).map fun l => V.str (S l))) → Kp3 H6 H' rp dt dr → Ex H H' ∧ H' ll = some (.lst ((svL tx ys).map fun l => V.str (S l))) := fun e5 e6 hl k => ⟨fun b o hb => k b o (e6 _ _ (e5 _ _ hb)) (ne_of_none hb np1) (ne_of_none hb ndt0) (ne_of_none hb ndr0), k _ _ (e6 _ _ hl) hlrp hldt hldr⟩
    refine q_forEn1V (ev_var rfl) (sq_of hll) (fun H3 => ea_cons ev_c ea_nil) (fun n σ' H' => ∃ (y3 y4 : Option V) (tx' rs : List (Key × V)) (lk li : Int) (ct : V), σ' = [some (.str (S (svT tx ys))), some (.ref rp), some (.ref ll), y3, y4, none, none] ∧ Ex H H' ∧ H' ll = some (.lst ((svL tx ys).map fun l => V.str (S l))) ∧ Rdr C_StoreReader H' rp dt dr tx' rs lk li ct ∧ Ph (srt2 tx) (idxL ys 0) ys.length n H' tx' rs lk li ct) (fun H3 e3 => ⟨_, _, [], [], 0, -1, .non, rfl, (e01.trans e2).trans e3, e3 _ _ hll, (R1.mono e2).mono e3, ?_⟩) (fun _ _ _ _ ⟨_, _, _, _, _, _, _, _, _, h, _⟩ => sq_of h) ?_ ?_
    · by_cases h0 : 0 < (srt2 tx).length
      · exact .c h0 rfl rfl (fun x _ => kO_pos x) rfl rfl
      · have hn : srt2 tx = [] := List.length_eq_zero_iff.mp (by omega)
        exact .r 0 (by omega) (Nat.zero_le _) (by rw [hn]; rfl) .nil (fun e _ => by omega) (by omega) rfl
    · rintro n x σ' H' H5 hxn ⟨y3, y4, tx', rs, lk, li, ct, rfl, e4, hl4, R4, ph⟩ e5
      rw [List.getElem?_map] at hxn
      obtain ⟨v, hv, rfl⟩ := Option.map_eq_some_iff.mp hxn
      have R5 := R4.mono e5
      obtain ⟨dxr, hr5⟩ := R5.ob
      refine s_notB ?_
      refine ⟨_, rfl, rp, dxr, _, rfl, hr5, fd_no dt dr lk li ct (by decide +kernel) (by decide +kernel) (by decide +kernel) (by decide +kernel) (by decide +kernel), ?_⟩
      refine ea_cons (ev_var rfl) ea_nil H5 (Ex.refl _) _ fun H6 e6 => ?_
      have e56 := e5.trans e6
      have R6 := R4.mono e56
      rcases svL_at hv with ⟨z, hz, rfl⟩ | ⟨k, e, hk, he, rfl⟩ | ⟨hk, rfl⟩
      · have hlt := (List.getElem?_eq_some_iff.mp hz).1
        cases ph with
        | r k h => omega
        | n h => omega
        | c h a b d e f =>
          subst a b e f
          have ht := S1.a z (List.mem_of_getElem? hz)
          refine ⟨rp, _, rfl, .inl ⟨dt, dr, _, lk, -1, z.1, z.2, rfl, R6, ht.1, ht.2, d z (by rw [drop_at hz]; exact List.mem_cons_self), by rw [kvO_len, List.length_take]; omega, fun H7 R7 k7 => ⟨true, rfl, ?_⟩⟩⟩
          obtain ⟨f1, f2⟩ := fin e4 e56 hl4 k7
          have R7' : Rdr C_StoreReader H7 rp dt dr (putK (kvO ((srt2 tx).take n)) (Sum.inl (kO z)) (.str (S z.2))) [] (kO z) (-1) .non := R7
          rw [putK_new (nd_new S1.n hz), ← kvO_snoc, ← take_snoc hz] at R7'
          refine ⟨_, _, _, _, _, _, _, rfl, f1, f2, R7', ?_⟩
          by_cases h9 : n + 1 < (srt2 tx).length
          · exact .c h9 rfl rfl (drop_lt S1.n P1 hz) rfl rfl
          · refine .r 0 (by omega) (Nat.zero_le _) (by rw [List.take_of_length_le (by omega)]) .nil (fun e _ => by omega) (by omega) rfl
      · have hlt := (List.getElem?_eq_some_iff.mp he).1
        cases ph with
        | c h => omega
        | n h => omega
        | r k' h hk' a b d e2 f =>
          have ek : k' = k := by omega
          subst ek a f
          obtain ⟨m1, m2, m3⟩ := IM e (List.mem_of_getElem? he)
          have ht := hy.a e.2.1 e.2.2 (List.mem_of_getElem? m3)
          have hlen := pair_rlen b
          rw [List.length_take] at hlen
          refine ⟨rp, _, rfl, .inr (.inl ⟨dt, dr, _, rs, lk, li, e.1, e.2.1, e.2.2, rfl, by omega, R6, ht.1, ht.2, d e (by rw [drop_at he]; exact List.mem_cons_self), by omega, fun t H7 nt ht7 R7 k7 => ⟨true, rfl, ?_⟩⟩)⟩
          obtain ⟨f1, f2⟩ := fin e4 e56 hl4 k7
          have hkeys : (Sum.inl (e.1 : Int) : Key) ∉ rs.map (·.1) := by rw [b.keys]; exact il_new I1 he
          rw [putK_new hkeys] at R7
          have b6 := b.keep fun b' xs' hb' => k7.tup R6 b' xs' (e56 _ _ hb')
          refine ⟨_, _, _, _, _, _, _, rfl, f1, f2, R7, .r (k' + 1) (by omega) (by omega) rfl ?_ (il_lt I1 he) (by omega) rfl⟩
          rw [take_snoc he]
          exact RsO.snoc b6 rfl ⟨t, rfl, ht7⟩
      · cases ph with
        | c h => omega
        | n h => omega
        | r k' h hk' a b d e2 f =>
          have ek : k' = (idxL ys 0).length := by omega
          subst ek a f
          refine ⟨rp, _, rfl, .inr (.inr ⟨dt, dr, _, rs, lk, li, ys.length, rfl, by omega, R6, e2, fun H7 R7 k7 => ⟨true, rfl, ?_⟩⟩)⟩
          obtain ⟨f1, f2⟩ := fin e4 e56 hl4 k7
          have b6 := b.keep fun b' xs' hb' => k7.tup R6 b' xs' (e56 _ _ hb')
          rw [List.take_length] at b6
          exact ⟨_, _, _, _, _, _, _, rfl, f1, f2, R7, .n (by omega) rfl b6 rfl⟩
    · rintro σ' H3 ⟨y3, y4, tx', rs, lk, li, ct, rfl, e3, hl3, R3, ph⟩
      have hlen : ((svL tx ys).map fun l => V.str (S l)).length = (srt2 tx).length + (idxL ys 0).length + 1 := by
        unfold svL
        rw [List.length_map, List.length_append, List.length_append, List.length_map, rowL_idx, List.length_map]
        rfl
      cases ph with
      | c h => omega
      | r k h hk => omega
      | n h a b f =>
        subst a f
        obtain ⟨dxr, hr3⟩ := R3.ob
        refine q_when (b := false) (et_is (et_isN (ev_fld (ev_var rfl) hr3 TC_StoreReader.cl TC_StoreReader.na_count (fd_c dt dr lk li (.int (ys.length : Int))))) rfl) (fun z => nomatch z) fun _ H4 e4 => ?_
        intro p1 dxs np nx ne
        refine ⟨p1, dxs, rfl, upd_same, fun d1 r1 H5 nd nr S5 k5 => ⟨rfl, ?_⟩⟩
        have e45 : Ex H4 H5 := fun b o hb => k5 b o (by rw [upd_ne (ne_of_none hb np), upd_ne (ne_of_none hb nx)]; exact hb) (ne_of_none hb np)
        have e35 := e4.trans e45
        have e05 := e3.trans e35
        have np0 : H p1 = none := fresh_back (e3.trans e4) np
        obtain ⟨dxs', hs5⟩ := S5.ob
        have R5 := R3.mono e35
        have hr5 := e35 _ _ hr3
        have hv : ∀ i : Nat, RwO H3 ((valV rs (Sum.inl (i : Int) : Key)).getD .non) ((ys[i]?).getD none) := fun i => by
          cases hyi : ys[i]? with
          | none =>
            rw [b.non i fun hm => by
              obtain ⟨e, he, rfl⟩ := List.mem_map.mp hm
              have := (IM e he).2.2
              rw [Nat.sub_zero, hyi] at this
              cases this]
            rfl
          | some y =>
            cases y with
            | none =>
              rw [b.non i fun hm => by
                obtain ⟨e, he, rfl⟩ := List.mem_map.mp hm
                have := (IM e he).2.2
                rw [Nat.sub_zero, hyi] at this
                cases this]
              rfl
            | some lm =>
              have z := idxL_in ys 0 i lm.1 lm.2 hyi
              rw [Nat.zero_add] at z
              obtain ⟨v, h1, h2⟩ := b.val I1 _ z
              rw [h1]
              exact h2
        have hP : Paired (RwO H3) ((List.range ys.length).map fun i : Nat => (valV rs (Sum.inl (i : Int) : Key)).getD .non) ys := by
          refine pair_of (by rw [List.length_map, List.length_range]) fun i a' b' h1 h2 => ?_
          have hi := (List.getElem?_eq_some_iff.mp h2).1
          rw [List.getElem?_map, List.getElem?_range hi] at h1
          cases h1
          have z := hv i
          rw [h2] at z
          exact z
        have pm : ∀ {H6 : Hp}, Ex H3 H6 → Paired (RwO H6) ((List.range ys.length).map fun i : Nat => (valV rs (Sum.inl (i : Int) : Key)).getD .non) ys := fun e => Paired.mapP hP fun _ _ z => z.mono e
        refine ⟨_, rfl, p1, dxs', _, rfl, hs5, fld_no d1 r1 (by decide +kernel) (by decide +kernel) (by decide +kernel), ?_⟩
        refine ev_fld (ev_var rfl) hr5 TC_StoreReader.cl TC_StoreReader.na_texts (fd_t dt dr lk li _) H5 (Ex.refl _) _ fun H6 e6 => ?_
        refine (el_lcR (n := (ys.length : Int)) (f := fun i : Nat => (valV rs (Sum.inl (i : Int) : Key)).getD .non) (ea_cons (ev_fld (ev_var rfl) (e6 _ _ hr5) TC_StoreReader.cl TC_StoreReader.na_count (fd_c dt dr lk li (.int (ys.length : Int)))) ea_nil) ⟨by omega, by omega⟩ (fun _ => rfl) fun i H7 e7 hi => ev_dget1I (ev_fld (ev_var rfl) (e7 _ _ (e6 _ _ hr5)) TC_StoreReader.cl TC_StoreReader.na_rows (fd_r dt dr lk li _)) (ev_var rfl) (e7 _ _ (e6 _ _ R5.r))) H6 (Ex.refl _) _ fun bl H7 nbl e7 hbl => ?_
        have e57 := e6.trans e7
        refine ⟨p1, dxs', d1, r1, dt, bl, kvO (srt2 tx), _, rfl, e57 _ _ hs5, e57 _ _ R5.t, hbl, fun x hx' => ?_, fun d' r' H8 nd' nr' S8 k8 => ?_⟩
        · obtain ⟨i, hi⟩ := List.mem_iff_getElem?.mp hx'
          obtain ⟨y, hyi, hR⟩ := pair_at (pm (e35.trans e57)) i x hi
          cases y with
          | none => exact .inl hR
          | some lm =>
            obtain ⟨a', h1, h2⟩ := hR
            have ht := hy.a lm.1 lm.2 (List.mem_of_getElem? hyi)
            exact .inr ⟨a', lm.1, lm.2, h1, h2, ht.1, ht.2⟩
        · have e08 : Ex H H8 := fun b' o hb => k8 b' o (e57 _ _ (e05 _ _ hb)) (ne_of_none hb np0)
          have k38 : ∀ b' xs', H7 b' = some (.tup xs') → H8 b' = some (.tup xs') := fun b' xs' hb => k8 b' _ hb (ne_of hb (e57 _ _ hs5) (by intro z; cases z))
          refine s_ret (v := .ref p1) (ev_var rfl) fun H9 e9 => q p1 d' r' _ H9 np0 (fresh_back (e05.trans e57) nd') (fresh_back (e05.trans e57) nr') (S8.mono e9) (Paired.mapP (pm (e35.trans e57)) fun v y z => ?_) (e08.trans e9)
          cases y with
          | none => exact z
          | some lm =>
            obtain ⟨a', h1, h2⟩ := z
            exact ⟨a', h1, e9 _ _ (k38 _ _ h2)⟩
end

--SPLIT
section
/-! ### the records of the law -/
def tx6 : List (List Nat) := [[], [120], [121, 10], lit "one", lit "two", List.replicate 30 120]
theorem tx6_ok : ∀ l ∈ tx6, l.length ≤ 30 ∧ okText l = true ∧ Kn.Rp.GK (key l) ∧ key l < 10 ^ 70 := by
  unfold Kn.Rp.GK
  decide +kernel
theorem tx6_K {l : List Nat} (h : l ∈ tx6) : TxK l := ⟨by have := (tx6_ok l h).1; omega, (tx6_ok l h).2.1⟩
def outsL (i : Nat) (mo : Bool) : List (List Nat) := rOut i ++ (if mo = true then [lit "more"] else [])
def needL (b : Bool) : List Kn.Rp.Nd := [⟨[lit "file", lit "s/a"], .no⟩, ⟨[lit "setting", lit "s"], .k 129⟩, ⟨[lit "has", lit "l"], .b b⟩]
def recL (i p n : Nat) (mo b : Bool) (rs : List (List Nat)) : Kn.Rp.Rc := ⟨outsL i mo, key (rkT i) + p, (needL b).take n, rs.map key⟩
theorem okText_app' {a b : List Nat} (ha : okText a = true) (hb : okText b = true) : okText (a ++ b) = true := by
  unfold okText at *
  rw [List.all_append, ha, hb]
  rfl
theorem okText_join {s : List Nat} (hs : okText s = true) : ∀ {ls : List (List Nat)}, (∀ l ∈ ls, okText l = true) → okText (TL.joinL s ls) = true
  | [], _ => rfl
  | [p], h => h p List.mem_cons_self
  | p :: q :: r, h => okText_app' (h p List.mem_cons_self) (okText_app' hs (okText_join hs fun l hl => h l (List.mem_cons_of_mem _ hl)))
theorem dig_ok : ∀ c, 48 ≤ c → c ≤ 57 → isCode ((c : Nat) : Int) = true := by
  have h : ∀ c < 58, 48 ≤ c → isCode ((c : Nat) : Int) = true := by decide +kernel
  exact fun c h1 h2 => h c (by omega) h1
theorem outs_fix : ∀ i < 2, ∀ mo : Bool, outsL i mo ≠ [] ∧ (outsL i mo).length ≤ 3 ∧ (outsL i mo).Nodup ∧ (∀ o ∈ outsL i mo, pathOk o = true ∧ 44 ∉ o ∧ 32 ∉ o) ∧ okText (TL.joinL [44] (outsL i mo)) = true ∧ (TL.joinL [44] (outsL i mo)).length ≤ 10 := by decide +kernel
theorem key_fix : ∀ i < 2, ∀ p < 2, (0 < key (rkT i) + p ∧ key (rkT i) + p < 2 ^ 1900) ∧ key (rkT i) + p < 10 ^ 90 := by decide +kernel
theorem need_fix : ∀ n < 4, ∀ b : Bool, (((needL b).take n).map fun d => TL.joinL [58] d.ws).Nodup ∧ okText (Kn.Rp.fmtNds ((needL b).take n)) = true ∧ (Kn.Rp.fmtNds ((needL b).take n)).length ≤ 60 := by decide +kernel
theorem words_W : Kn.Rp.WOk (lit "s/a") ∧ Kn.Rp.WOk (lit "s") ∧ Kn.Rp.WOk (lit "l") ∧ pathOk (lit "s/a") = true ∧ Kn.Rp.idOk (lit "s") = true ∧ pathOk (lit "l") = true ∧ Kn.Rp.GK 129 := by
  unfold Kn.Rp.WOk Kn.Rp.GK
  decide +kernel
theorem need_good {b : Bool} : ∀ d ∈ needL b, Kn.Rp.GNd d := fun d hd => by
  obtain ⟨w1, w2, w3, w4, w5, w6, w7⟩ := words_W
  rcases List.mem_cons.mp hd with rfl | hd
  · exact .file w4 w1 trivial fun _ z => nomatch z
  · rcases List.mem_cons.mp hd with rfl | hd
    · exact .set w5 w2 w7 fun _ z => nomatch z
    · rw [List.mem_singleton.mp hd]
      exact .has w6 w3
theorem okText_num (n : Nat) : okText (TL.numL n) = true := List.all_eq_true.mpr fun c hc => dig_ok c (TL.numL_digits n c hc).1 (TL.numL_digits n c hc).2
theorem okText_lt {l : List Nat} (h : okText l = true) : ∀ c ∈ l, c < 128 := fun c hc => by
  have := isCode_cases (List.all_eq_true.mp h c hc)
  omega
theorem rec_fn {i p n : Nat} {mo b : Bool} {rs : List (List Nat)} (hi : i < 2) (hp : p < 2) (hn : n < 4) (hr : ∀ l ∈ rs, l ∈ tx6) (hl : rs.length = (outsL i mo).length) : Fn (recL i p n mo b rs) ∧ TxK (Kn.Rp.fmtRc (recL i p n mo b rs)) := by
  obtain ⟨o1, o2, o3, o4, o5, o6⟩ := outs_fix i hi mo
  obtain ⟨k1, k2⟩ := key_fix i hi p hp
  obtain ⟨n1, n2, n3⟩ := need_fix n hn b
  have hlen3 : rs.length ≤ 3 := by omega
  have g : Kn.Rp.GRc (recL i p n mo b rs) := ⟨o1, o2, o3, o4, k1, by
      show ((needL b).take n).length ≤ 60
      rw [List.length_take]
      show min n 3 ≤ 60
      omega, n1, fun d hd => need_good d (List.mem_of_mem_take hd), by
      show (rs.map key).length = _
      rw [List.length_map]
      exact hl, fun m hm => by
      obtain ⟨l, h1, rfl⟩ := List.mem_map.mp hm
      exact (tx6_ok l (hr l h1)).2.2.1⟩
  have hk : (TL.numL (key (rkT i) + p)).length ≤ 90 := TL.numL_len (by decide) k2
  have hrs : ∀ l ∈ (rs.map key).map TL.numL, l.length ≤ 70 := fun l hl => by
    obtain ⟨m, hm, rfl⟩ := List.mem_map.mp hl
    obtain ⟨t, ht, rfl⟩ := List.mem_map.mp hm
    exact TL.numL_len (by decide) (tx6_ok t (hr t ht)).2.2.2
  have hsum : (TL.joinL [44] ((rs.map key).map TL.numL)).length ≤ 250 := by
    have jl : ∀ ls : List (List Nat), (∀ l ∈ ls, l.length ≤ 70) → (TL.joinL [44] ls).length ≤ ls.length * 71 := fun ls => by
      induction ls with
      | nil => intro _; exact Nat.zero_le _
      | cons x r ih =>
        intro h
        have h1 := h x List.mem_cons_self
        have h2 := ih fun l hl => h l (List.mem_cons_of_mem _ hl)
        cases r with
        | nil =>
          show x.length ≤ 1 * 71
          omega
        | cons y r =>
          show (x ++ ([44] ++ TL.joinL [44] (y :: r))).length ≤ ((y :: r).length + 1) * 71
          rw [List.length_append, List.length_append, List.length_singleton]
          omega
    have z := jl _ hrs
    rw [List.length_map, List.length_map] at z
    omega
  have hok : okText (Kn.Rp.fmtRc (recL i p n mo b rs)) = true := by
    refine okText_join (by decide) fun l hl => ?_
    have hl : l ∈ [TL.joinL [44] (outsL i mo), TL.numL (key (rkT i) + p), Kn.Rp.fmtNds ((needL b).take n), TL.joinL [44] ((rs.map key).map TL.numL)] := hl
    simp only [List.mem_cons, List.not_mem_nil, or_false] at hl
    rcases hl with rfl | rfl | rfl | rfl
    · exact o5
    · exact okText_num _
    · exact n2
    · refine okText_join (by decide) fun l hl => ?_
      obtain ⟨m, hm, rfl⟩ := List.mem_map.mp hl
      exact okText_num m
  have hlen : (Kn.Rp.fmtRc (recL i p n mo b rs)).length ≤ 690 := by
    show (TL.joinL [44] (outsL i mo) ++ ([32] ++ (TL.numL (key (rkT i) + p) ++ ([32] ++ (Kn.Rp.fmtNds ((needL b).take n) ++ ([32] ++ TL.joinL [44] ((rs.map key).map TL.numL))))))).length ≤ 690
    simp only [List.length_append, List.length_singleton]
    omega
  exact ⟨⟨g, by omega, okText_lt hok⟩, hlen, hok⟩
end

section
variable {P : Program} {w : World} {K : PySem.W.Frag} {mg : Str → Option Value} {base : Heap}
/-! ### the law's store -/
structure Gd (m : Nat) (kvs : List (Key × V)) : Prop where
  ex : ∃ tx : Tx2, kvs = kvO tx ∧ (∀ x ∈ tx, TxK x.1 ∧ TxK x.2) ∧ (∀ x ∈ tx, x.1.length ≤ 40 ∧ x.2.length ≤ 40) ∧ (tx.map kO).Nodup ∧ tx.length ≤ m
theorem Gd.up {m n : Nat} {kvs : List (Key × V)} (g : Gd m kvs) (h : m ≤ n) : Gd n kvs := by
  obtain ⟨tx, a, b, c, d, e⟩ := g.ex
  exact ⟨tx, a, b, c, d, by omega⟩
theorem Gd.nil : Gd 0 [] := ⟨[], rfl, (fun _ h => nomatch h), (fun _ h => nomatch h), List.nodup_nil, Nat.le_refl 0⟩
theorem Gd.len {m : Nat} {kvs : List (Key × V)} (g : Gd m kvs) : kvs.length ≤ m := by
  obtain ⟨tx, rfl, b, c, d, e⟩ := g.ex
  rw [kvO_len]
  exact e
theorem kvO_keys (tx : Tx2) : (kvO tx).map (·.1) = (tx.map kO).map Sum.inl := by
  unfold kvO
  rw [List.map_map, List.map_map]
  rfl
theorem putK_old {tx : Tx2} {k : Int} {m : List Nat} (h : k ∈ tx.map kO) : putK (kvO tx) (Sum.inl k) (.str (S m)) = kvO (tx.map fun x => if kO x = k then (x.1, m) else x) := by
  unfold putK
  rw [if_pos (by
    obtain ⟨x, hx, e⟩ := List.mem_map.mp h
    exact List.any_eq_true.mpr ⟨_, List.mem_map.mpr ⟨x, hx, rfl⟩, decide_eq_true (congrArg Sum.inl e)⟩)]
  unfold kvO
  rw [List.map_map, List.map_map]
  refine List.map_congr_left fun x hx => ?_
  show (if (Sum.inl (kO x) : Key) = Sum.inl k then ((Sum.inl (kO x) : Key), V.str (S m)) else (Sum.inl (kO x), V.str (S x.2))) = (Sum.inl (kO (if kO x = k then (x.1, m) else x)), V.str (S (if kO x = k then (x.1, m) else x).2))
  by_cases e : kO x = k
  · rw [if_pos (congrArg Sum.inl e), if_pos e]
    rfl
  · rw [if_neg (fun z => e (Sum.inl.inj z)), if_neg e]
theorem Gd.old {n : Nat} {tx : Tx2} {k : Int} {m : List Nat} (g : Gd n (kvO tx)) (h : k ∈ tx.map kO) (hm : TxK m) (hs : m.length ≤ 40) : Gd n (putK (kvO tx) (Sum.inl k) (.str (S m))) := by
  obtain ⟨tx', a, b, c, d, e⟩ := g.ex
  have hk' : k ∈ tx'.map kO := by
    have z : (Sum.inl k : Key) ∈ (kvO tx).map (·.1) := by rw [kvO_keys]; exact List.mem_map.mpr ⟨k, h, rfl⟩
    rw [a, kvO_keys] at z
    obtain ⟨y, hy, z⟩ := List.mem_map.mp z
    rw [← Sum.inl.inj z]
    exact hy
  rw [a, putK_old hk']
  refine ⟨_, rfl, fun x hx => ?_, fun x hx => ?_, ?_, by rw [List.length_map]; exact e⟩
  · obtain ⟨y, hy, rfl⟩ := List.mem_map.mp hx
    split
    · exact ⟨(b y hy).1, hm⟩
    · exact b y hy
  · obtain ⟨y, hy, rfl⟩ := List.mem_map.mp hx
    split
    · exact ⟨(c y hy).1, hs⟩
    · exact c y hy
  · rw [List.map_map]
    have z : tx'.map (kO ∘ fun x => if kO x = k then (x.1, m) else x) = tx'.map kO := List.map_congr_left fun x hx => by
      show kO (if kO x = k then (x.1, m) else x) = kO x
      split <;> rfl
    rw [z]
    exact d
theorem Gd.put {n : Nat} {kvs : List (Key × V)} {l m : List Nat} (g : Gd n kvs) (hl : TxK l) (hm : TxK m) (h1 : l.length ≤ 40) (h2 : m.length ≤ 40) : Gd (n + 1) (putK kvs (Sum.inl ((key l : Nat) : Int)) (.str (S m))) := by
  obtain ⟨tx, rfl, b, c, d, e⟩ := id g.ex
  by_cases h : ((key l : Nat) : Int) ∈ tx.map kO
  · exact (g.old h hm h2).up (Nat.le_succ n)
  · have hn : (Sum.inl ((key l : Nat) : Int) : Key) ∉ (kvO tx).map (·.1) := fun z => by
      rw [kvO_keys] at z
      obtain ⟨y, hy, z⟩ := List.mem_map.mp z
      exact h (by rw [← Sum.inl.inj z]; exact hy)
    rw [putK_new hn]
    refine ⟨tx ++ [(l, m)], (kvO_snoc tx (l, m)).symm, fun x hx => ?_, fun x hx => ?_, ?_, by rw [List.length_append]; exact Nat.succ_le_succ e⟩
    · rcases List.mem_append.mp hx with z | z
      · exact b x z
      · rw [List.mem_singleton.mp z]; exact ⟨hl, hm⟩
    · rcases List.mem_append.mp hx with z | z
      · exact c x z
      · rw [List.mem_singleton.mp z]; exact ⟨h1, h2⟩
    · rw [List.map_append]
      refine List.nodup_append.mpr ⟨d, List.pairwise_singleton _ _, fun a ha b' hb z => ?_⟩
      rw [List.mem_singleton.mp hb] at z
      exact h (show kO (l, m) ∈ tx.map kO by rw [← z]; exact ha)
theorem Gd.drop {n : Nat} {kvs : List (Key × V)} (g : Gd n kvs) (k : Int) : Gd n (dropK kvs (Sum.inl k)) := by
  obtain ⟨tx, rfl, b, c, d, e⟩ := g.ex
  have z : dropK (kvO tx) (Sum.inl k) = kvO (tx.filter fun x => !decide (kO x = k)) := by
    unfold dropK kvO
    rw [List.filter_map]
    refine congrArg (List.map _) (List.filter_congr fun x hx => ?_)
    show decide ((Sum.inl (kO x) : Key) ≠ Sum.inl k) = !decide (kO x = k)
    simp
  rw [z]
  refine ⟨_, rfl, fun x hx => b x (List.mem_filter.mp hx).1, fun x hx => c x (List.mem_filter.mp hx).1, List.Sublist.nodup (List.Sublist.map _ List.filter_sublist) d, Nat.le_trans (List.length_filter_le _ _) e⟩
theorem rows_of {H : Hp} : ∀ {xs : List V}, (∀ x ∈ xs, RowV H x) → ∃ ys : Rw2, Paired (RwO H) xs ys ∧ ∀ l m, some (l, m) ∈ ys → TxK l ∧ TxK m
  | [], _ => ⟨[], .nil, fun _ _ h => nomatch h⟩
  | x :: r, h => by
    obtain ⟨ys, h1, h2⟩ := rows_of fun y hy => h y (List.mem_cons_of_mem _ hy)
    rcases h x List.mem_cons_self with rfl | ⟨a, l, m, rfl, ha, t1, t2⟩
    · exact ⟨none :: ys, .cons rfl h1, fun l m hm => by
        rcases List.mem_cons.mp hm with z | z
        · cases z
        · exact h2 l m z⟩
    · exact ⟨some (l, m) :: ys, .cons ⟨a, rfl, ha⟩ h1, fun l' m' hm => by
        rcases List.mem_cons.mp hm with z | z
        · cases z
          exact ⟨t1, t2⟩
        · exact h2 l' m' z⟩
/-- the rows as data -/
def rowD : Option (List Nat × List Nat) → PyData
  | none => .none
  | some x => .tuple [.int (kO x), .str (S x.2)]
theorem dta_rows {H : Hp} : ∀ {xs : List V} {ys : Rw2}, Paired (RwO H) xs ys → DtA H xs (ys.map rowD)
  | _, [], .nil => .nil
  | _, none :: _, .cons h r => by
    cases h
    exact .cons .non (dta_rows r)
  | _, some (l, m) :: _, .cons h r => by
    obtain ⟨a, rfl, ha⟩ := h
    exact .cons (.tup ha (.cons (.int _) (.cons (.str _) .nil))) (dta_rows r)
theorem TxK.okS {l : List Nat} (h : TxK l) : okS l = true := List.all_eq_true.mpr fun c hc => decide_eq_true (by have := h.lt hc; omega)
theorem can_rows : ∀ {ys : Rw2}, (∀ l m, some (l, m) ∈ ys → TxK l ∧ TxK m) → PyData.canLayAll0 (ys.map rowD) = true
  | [], _ => can_nil
  | none :: r, h => can_cons rfl (can_rows fun l m hm => h l m (List.mem_cons_of_mem _ hm))
  | some (l, m) :: r, h => can_cons (can_cons rfl (can_cons (canS (h l m List.mem_cons_self).2.okS) can_nil)) (can_rows fun l m hm => h l m (List.mem_cons_of_mem _ hm))
theorem dep_rows : ∀ (ys : Rw2), PyData.depthAll (ys.map rowD) ≤ 1
  | [] => by
    show PyData.depthAll [] ≤ 1
    unfold PyData.depthAll
    exact Nat.zero_le _
  | none :: r => by
    have := dep_rows r
    show PyData.depthAll (.none :: r.map rowD) ≤ 1
    simp only [PyData.depth, PyData.depthAll]
    omega
  | some (l, m) :: r => by
    have := dep_rows r
    show PyData.depthAll (.tuple [.int _, .str _] :: r.map rowD) ≤ 1
    simp only [PyData.depth, PyData.depthAll]
    omega
theorem sh_rows {ys : Rw2} (h : ∀ l m, some (l, m) ∈ ys → TxK l ∧ TxK m) : SeqAt.shaped (.list (ys.map rowD)) = true := by
  refine shaped_lst (can_rows h) ?_
  have := dep_rows ys
  simp only [PyData.depth]
  omega
end

--SPLIT
section
variable {P : Program} {w : World} {K : PySem.W.Frag} {mg : Str → Option Value} {base : Heap}
def sp__law_cell (K : PySem.W.Frag) : Sp := sp3 (fun (a : Addr) (_ : List Int) (k : Nat) => [.ref a, .int (k : Int)]) (fun a ns _ H => SqL K H a (ns.map V.int)) (fun _ ns k => .int (L2.cellOf ns k))
theorem ok__law_cell {f : Addr} {C_Store C_Record C_Rule C_Book C_Job C_StoreReader : Addr} {fd : FuncData} (F : Fun K "_law_cell" "_law_cell" s__law_cell f fd) (T : Tx mg) (G : Gx K mg) (TC_Store : Tc_Store K C_Store) (TC_Record : Tc_Record K C_Record) (TC_Rule : Tc_Rule K C_Rule) (TC_Book : Tc_Book K C_Book) (TC_Job : Tc_Job K C_Job) (TC_StoreReader : Tc_StoreReader K C_StoreReader)  : FnOk P w K mg base CX0 1 f fd ["script", "k"] (sp__law_cell K) := by
  refine F.ok sc__law_cell (fun vs H Q E h => ?_) (fun cdv A outer s H vs Q E hr h => ?_)
  · obtain ⟨a, ns, k, rfl, _⟩ := h
    rfl
  · obtain ⟨a, ns, k, rfl, hS, q⟩ := h
    refine ⟨_, (pss_cons (ps_if (pt_cmpR op_lt (pv 1) (pe_callB Kn.cr_lenSeq (by rfl) T.b_len PySem.boot_len (pa_cons (pv 0) pa_nil)) (nomark _)) (pss_one (ps_ret (pe_callTy Kn.cr_int1 (by rfl) T.b_int (by decide +kernel) (pa_cons (pe_ix ix_list (pv 0) (pv 1) (fun _ _ => rfl)) pa_nil)))) pss_nil)
      (pss_one (ps_ret pe_int))), ?_⟩
    refine q_when (et_test (ev_op (ev_var rfl) (ev_len (ev_var rfl) hS) rv_lt)) (fun hb H1 e1 => ?_) (fun hb H1 e1 => ?_)
    · have hk : k < ns.length := by
        rw [List.length_map, decide_eq_true_eq] at hb
        omega
      exact s_ret (ev_cb (ea_cons (ev_op (ev_var rfl) (ev_var rfl) (rv_ixL (ex_l e1 hS) (atI_cell hk))) ea_nil) rc_int) fun H2 e2 => q H2 (e1.trans e2)
    · have hk : ¬ k < ns.length := by
        rw [List.length_map, decide_eq_false_iff_not] at hb
        omega
      refine s_ret ev_c fun H2 e2 => ?_
      have z : Q (.int (L2.cellOf ns k)) H2 := q H2 (e1.trans e2)
      rw [cell_out hk] at z
      exact z
theorem ev_cellA {σ : L2.St} {H : Hp} {a : Addr} {ns : List Int} {c : Nat} {ta : TA} (h : EvA ta σ H [.ref a, .int (c : Int)]) (hS : SqL K H a (ns.map V.int)) : Ev (tCB rAbs (tCons (tCall (sp__law_cell K) [] E0 ta) tNil)) σ H (.int (((L2.cellOf ns c).natAbs : Nat) : Int)) :=
  ev_cb (ea_cons (ev_c3 (a := a) (b := ns) (c := c) h fun H1 e1 => ex_l e1 hS) ea_nil) rc_abs

/-! ### the law's store is made -/
theorem s_ifN {σ : L2.St} {H : Hp} {D : Ends} {tc : TT} {tu tw : TS} {b : Bool} (h : EvT tc σ H b) (h1 : b = true → ∀ H1, Ex H H1 → tu D σ H1) (h2 : b = false → ∀ H1, Ex H H1 → tw D σ H1) : tIfS tc tu tw D σ H := s_if h h1 h2
theorem q_ifF {σ : L2.St} {H : Hp} {D : Ends} {tz tu : TS} {tc : TT} {b : Bool} (h : EvT tc σ H b) (Fin : L2.St → Hp → Prop) (h1 : ∀ Tz : L2.St → Hp → Prop, (∀ σ H, Fin σ H → Tz σ H) → b = true → ∀ H1, Ex H H1 → tu { D with nx := Tz } σ H1) (h2 : b = false → ∀ H1, Ex H H1 → Fin σ H1) (hd : ∀ σ' H', Fin σ' H' → tz D σ' H') : tSeq (tIfS tc tu tNext) tz D σ H :=
  q_when h (fun hb H1 e => h1 (tz D) hd hb H1 e) fun hb H1 e => hd _ _ (h2 hb H1 e)
theorem eu_catV {σ : L2.St} {H : Hp} {ta tb : TE} {p : Addr} {xs ys : List V} (h1 : Ev ta σ H (.ref p)) (hp : H p = some (.tup xs)) (h2 : EvU tb σ H ys) (hz : xs.length + ys.length ≤ 100000) (n1 : xs ≠ []) (n2 : ys ≠ []) : EvU (tOp (rCatT K) ta tb) σ H (xs ++ ys) := fun H1 e Q q =>
  h1 H1 e _ fun H2 e2 => h2 H2 (e.trans e2) _ fun b H3 nb e3 hb => ⟨p, b, xs, ys, rfl, rfl, st_of (((e.trans e2).trans e3) _ _ hp), st_of hb, n1, sz_of hz, fun z => absurd z n2, fun _ l hl => q _ _ (fresh_back (e2.trans e3) hl) ((e2.trans e3).trans (Ex.new hl)) upd_same⟩
/-- what is kept while the store is changed -/
structure Wd (H0 H : Hp) (p d r tl : Addr) (C : Addr) (kvs : List (Key × V)) (xs : List V) (m n : Nat) : Prop where
  ex : Ex H0 H
  tl : H tl = some (.lst (tx6.map fun l => V.str (S l)))
  st : Sto C H p d r kvs xs
  gd : Gd m kvs
  xl : xs.length ≤ n
theorem Wd.mono {H0 H H1 : Hp} {p d r tl C : Addr} {kvs : List (Key × V)} {xs : List V} {m n : Nat} (h : Wd H0 H p d r tl C kvs xs m n) (e : Ex H H1) : Wd H0 H1 p d r tl C kvs xs m n := ⟨h.ex.trans e, e _ _ h.tl, h.st.mono e, h.gd, h.xl⟩
theorem Wd.up {H0 H : Hp} {p d r tl C : Addr} {kvs : List (Key × V)} {xs : List V} {m n m' n' : Nat} (h : Wd H0 H p d r tl C kvs xs m n) (h1 : m ≤ m') (h2 : n ≤ n') : Wd H0 H p d r tl C kvs xs m' n' := ⟨h.ex, h.tl, h.st, h.gd.up h1, Nat.le_trans h.xl h2⟩
theorem Wd.d {H0 H H' : Hp} {p d r tl C : Addr} {kvs kvs' : List (Key × V)} {xs : List V} {m m' n : Nat} (h : Wd H0 H p d r tl C kvs xs m n) (nd : H0 d = none) (T : Sto C H' p d r kvs' xs) (g : Gd m' kvs') (k : Keeps H H' d) : Wd H0 H' p d r tl C kvs' xs m' n :=
  ⟨fun b o hb => k b o (h.ex _ _ hb) (ne_of_none hb nd), k _ _ h.tl (ne_of h.tl h.st.dc (by intro z; cases z)), T, g, h.xl⟩
theorem Wd.r {H0 H H' : Hp} {p d r tl C : Addr} {kvs : List (Key × V)} {xs xs' : List V} {m n n' : Nat} (h : Wd H0 H p d r tl C kvs xs m n) (nr : H0 r = none) (ntr : tl ≠ r) (T : Sto C H' p d r kvs xs') (hl : xs'.length ≤ n') (k : Keeps H H' r) : Wd H0 H' p d r tl C kvs xs' m n' :=
  ⟨fun b o hb => k b o (h.ex _ _ hb) (ne_of_none hb nr), k _ _ h.tl ntr, T, h.gd, hl⟩
theorem Wd.side {H0 H : Hp} {p d r tl C q : Addr} {kvs : List (Key × V)} {xs ys zs : List V} {m n : Nat} (h : Wd H0 H p d r tl C kvs xs m n) (hq : H q = some (.lst ys)) (n0 : H0 q = none) (n1 : tl ≠ q) (n2 : r ≠ q) : Wd H0 (L2.upd H q (.lst zs)) p d r tl C kvs xs m n := by
  obtain ⟨dx, hp⟩ := h.st.ob
  have np : p ≠ q := ne_of hp hq (by intro z; cases z)
  have nd : d ≠ q := ne_of h.st.dc hq (by intro z; cases z)
  refine ⟨fun b o hb => by rw [upd_ne (ne_of_none hb n0)]; exact h.ex _ _ hb, by rw [upd_ne n1]; exact h.tl, ⟨⟨dx, by rw [upd_ne np]; exact hp⟩, by rw [upd_ne nd]; exact h.st.dc, by rw [upd_ne n2]; exact h.st.rc, fun x hx => (h.st.rv x hx).keep fun b xs' hb => ?_⟩, h.gd, h.xl⟩
  rw [upd_ne (ne_of hb hq (by intro z; cases z))]
  exact hb
theorem tx6_at (i : Nat) (h : i < 6) : ∃ l ∈ tx6, (tx6.map fun l => V.str (S l))[i]? = some (.str (S l)) := by
  have hl : i < tx6.length := h
  exact ⟨tx6[i], List.getElem_mem hl, by rw [List.getElem?_map, List.getElem?_eq_getElem hl]; rfl⟩
theorem eu_tupV {σ : L2.St} {H : Hp} {ta : TE} {p : Addr} {xs : List V} (h : Ev ta σ H (.ref p)) (hp : H p = some (.lst xs)) : EvU (tCB (rTupS K) (tCons ta tNil)) σ H xs := fun H1 e Q q => h H1 e _ fun H2 e2 => ⟨p, xs, rfl, .inl ⟨sq_of ((e.trans e2) _ _ hp), fun l hl => q _ _ (fresh_back e2 hl) (e2.trans (Ex.new hl)) upd_same⟩⟩
theorem tsl_open {σ : L2.St} {H : Hp} {r : V → Option Int → Option Int → Hp → VK → Prop} {te : TE} {tl th : TO} {Q : VK} (h : te σ H fun x H1 => tl σ H1 fun lo H2 => th σ H2 fun hi H3 => r x lo hi H3 Q) : tSl r te tl th σ H Q := h
theorem ttup_open {σ : L2.St} {H : Hp} {ta : TA} {Q : VK} (h : ta σ H fun vs H1 => vs.length ≤ sizeLine ∧ ∀ q, H1 q = none → Q (.ref q) (L2.upd H1 q (.tup vs))) : tTup ta σ H Q := h
theorem tcons_open {σ : L2.St} {H : Hp} {te : TE} {ta : TA} {R : List V → Hp → Prop} (h : te σ H fun v H1 => ta σ H1 fun vs H2 => R (v :: vs) H2) : tCons te ta σ H R := h
theorem needs_go {σ : L2.St} {H : Hp} {te tb : TE} {to : TO} {n : Nat} {bb : Bool} {R : VK} (hn : n < 4) (ho : ∀ H1, Ex H H1 → EvO to σ H1 none) (hte : ∀ H1, Ex H H1 → Ev te σ H1 (.int (n : Int))) (hb : ∀ H1, Ex H H1 → Ev tb σ H1 (.bl bb))
    (k : ∀ (q : Addr) (as : List Addr) H', Ex H H' → H' q = some (.tup (as.map V.ref)) → Paired (fun a y => H' a = some (.tup y)) as (((needL bb).take n).map Kn.Rp.ndD) → R (.ref q) H') :
    tSl (rSlA K) (tTup (tCons (tTup (tCons (tC (.str (Str.ofString "file"))) (tCons (tC (.str (Str.ofString "s/a"))) (tCons (tC .non) tNil)))) (tCons (tTup (tCons (tC (.str (Str.ofString "setting"))) (tCons (tC (.str (Str.ofString "s"))) (tCons (tC (.int 129)) tNil)))) (tCons (tTup (tCons (tC (.str (Str.ofString "has"))) (tCons (tC (.str (Str.ofString "l"))) (tCons tb tNil)))) tNil)))) to (tPart te) σ H R := by
  refine tsl_open ?_
  refine ttup_open ?_
  refine tcons_open ?_
  refine (eu_tup (vs := [.str (S (lit "file")), .str (S (lit "s/a")), .non]) (ea_cons (ev_cS (l := lit "file") rfl) (ea_cons (ev_cS (l := lit "s/a") rfl) (ea_cons ev_c ea_nil))) (by show 3 ≤ 100000; decide)) H (Ex.refl H) _ fun t1 H1 n1 e1 h1 => ?_
  refine tcons_open ?_
  refine (eu_tup (vs := [.str (S (lit "setting")), .str (S (lit "s")), .int ((129 : Nat) : Int)]) (ea_cons (ev_cS (l := lit "setting") rfl) (ea_cons (ev_cS (l := lit "s") rfl) (ea_cons ev_c ea_nil))) (by show 3 ≤ 100000; decide)) H1 (Ex.refl H1) _ fun t2 H2 n2 e2 h2 => ?_
  refine tcons_open ?_
  refine (eu_tup (vs := [.str (S (lit "has")), .str (S (lit "l")), .bl bb]) (ea_cons (ev_cS (l := lit "has") rfl) (ea_cons (ev_cS (l := lit "l") rfl) (ea_cons (hb H2 (e1.trans e2)) ea_nil))) (by show 3 ≤ 100000; decide)) H2 (Ex.refl H2) _ fun t3 H3 n3 e3 h3 => ?_
  refine ⟨(by show 3 ≤ sizeLine; decide), fun q0 nq0 => ?_⟩
  have e04 := ((e1.trans e2).trans e3).trans (Ex.new (o := .tup [.ref t1, .ref t2, .ref t3]) nq0)
  refine ho _ e04 _ (Ex.refl _) _ fun H5 e5 => hte _ (e04.trans e5) _ (Ex.refl _) _ fun H6 e6 => ?_
  have e56 := e5.trans e6
  have hq := e56 _ _ (upd_same (H := H3) (a := q0) (o := HO.tup [.ref t1, .ref t2, .ref t3]))
  have g1 := e56 _ _ ((Ex.new nq0) _ _ (e3 _ _ (e2 _ _ h1)))
  have g2 := e56 _ _ ((Ex.new nq0) _ _ (e3 _ _ h2))
  have g3 := e56 _ _ ((Ex.new (o := .tup [.ref t1, .ref t2, .ref t3]) nq0) _ _ h3)
  have e06 := e04.trans e56
  have P3 : ∀ {H7 : Hp}, Ex H6 H7 → Paired (fun a y => H7 a = some (.tup y)) [t1, t2, t3] ((needL bb).map Kn.Rp.ndD) := fun e => .cons (e _ _ g1) (.cons (e _ _ g2) (.cons (e _ _ g3) .nil))
  have tk : ∀ {H7 : Hp} (m : Nat), Ex H6 H7 → Paired (fun a y => H7 a = some (.tup y)) (([t1, t2, t3] : List Addr).take m) (((needL bb).take m).map Kn.Rp.ndD) := fun m e => by
    match m with
    | 0 => exact .nil
    | 1 => exact .cons (e _ _ g1) .nil
    | 2 => exact .cons (e _ _ g1) (.cons (e _ _ g2) .nil)
    | m + 3 => exact .cons (e _ _ g1) (.cons (e _ _ g2) (.cons (e _ _ g3) (by simp [needL]; exact .nil)))
  refine ⟨(n : Int), rfl, q0, [.ref t1, .ref t2, .ref t3], rfl, st_of hq, fun hw => ?_, fun hw p np => ?_⟩
  · have h3 : n = 3 := by
      have z := hw.2
      match n, hn, z with
      | 0, _, z => exact absurd z (by show ¬ HT.sIx 3 3 (some ((0 : Nat) : Int)) = 3; decide)
      | 1, _, z => exact absurd z (by show ¬ HT.sIx 3 3 (some ((1 : Nat) : Int)) = 3; decide)
      | 2, _, z => exact absurd z (by show ¬ HT.sIx 3 3 (some ((2 : Nat) : Int)) = 3; decide)
      | 3, _, _ => rfl
    subst h3
    exact k q0 [t1, t2, t3] _ e06 hq (tk 3 (Ex.refl _))
  · refine k p (([t1, t2, t3] : List Addr).take n) _ (e06.trans (Ex.new np)) ?_ (tk n (Ex.new np))
    rw [upd_same]
    refine congrArg (fun z => some (HO.tup z)) ?_
    match n, hn with
    | 0, _ => rfl
    | 1, _ => rfl
    | 2, _ => rfl
    | 3, _ => rfl
theorem w3_at (i : Nat) (h : i < 3) : ∃ m, TxK m ∧ m.length ≤ 40 ∧ ([.str (S (lit "x")), .str (S (lit "damage")), .str (S [])] : List V)[i]? = some (.str (S m)) := by
  unfold TxK
  match i, h with
  | 0, _ => exact ⟨lit "x", by decide +kernel, by decide +kernel, rfl⟩
  | 1, _ => exact ⟨lit "damage", by decide +kernel, by decide +kernel, rfl⟩
  | 2, _ => exact ⟨[], by decide +kernel, by decide +kernel, rfl⟩
theorem w2_at (i : Nat) (h : i < 2) : ∃ m, TxK m ∧ ([.str (S (lit "x")), .str (S (lit "a 128 - 1"))] : List V)[i]? = some (.str (S m)) := by
  unfold TxK
  match i, h with
  | 0, _ => exact ⟨lit "x", by decide +kernel, rfl⟩
  | 1, _ => exact ⟨lit "a 128 - 1", by decide +kernel, rfl⟩
def sp__law_make_store (C CR CU CB CJ : Addr) (_ : Gx K mg) : Sp := fun vs H Q _ => ∃ (a b jl j0 j1 : Addr) (ns : List Int), vs = [.ref a, .int ((0 : Nat) : Int), .ref b, .ref jl] ∧ SqL K H a (ns.map V.int) ∧ BkO CB CU H b ∧ H jl = some (.lst [.ref j0, .ref j1]) ∧ JbO CJ H j0 0 ∧ JbO CJ H j1 1 ∧
  ∀ (p d r : Addr) (tx : Tx2) (xs : List V) (ys : Rw2) (H' : Hp), H p = none → H d = none → H r = none → Ex H H' → Sto C H' p d r (kvO tx) xs → TxOk tx → RwOk ys → Paired (RwO H') xs ys → Q (.ref p) H'
theorem ok__law_make_store {f : Addr} {C_Store C_Record C_Rule C_Book C_Job C_StoreReader : Addr} {fd : FuncData} (F : Fun K "_law_make_store" "_law_make_store" s__law_make_store f fd) (T : Tx mg) (G : Gx K mg) (TC_Store : Tc_Store K C_Store) (TC_Record : Tc_Record K C_Record) (TC_Rule : Tc_Rule K C_Rule) (TC_Book : Tc_Book K C_Book) (TC_Job : Tc_Job K C_Job) (TC_StoreReader : Tc_StoreReader K C_StoreReader) (M_Store : Kn.MkrD P w K mg base 1 "Store" C_Store (sp_Store___init__ C_Store K) [.non]) (C__law_cell : Kn.Cl P w K mg base 1 "_law_cell" (sp__law_cell K)) (M_Store_put_content : Kn.Mt P w K mg base 3 C_Store "put_content" (sp_Store_put_content C_Store C_Record K)) (C_rule_key : Kn.Cl P w K mg base 5 "rule_key" (sp_rule_key C_Rule C_Book C_Job K)) (C_content_key : Kn.Cl P w K mg base 1 "content_key" (sp_content_key K)) (M_Store_add_record : Kn.Mt P w K mg base 4 C_Store "add_record" (sp_Store_add_record C_Store C_Record K)) (M_Record : Kn.Mkr P w K mg base 1 "Record" C_Record (sp_Record___init__ C_Record K)) (M_Store_content_keys : Kn.Mt P w K mg base 1 C_Store "content_keys" (sp_Store_content_keys C_Store C_Record K)) (M_Store_lose_content : Kn.MtX P w K mg base 4 C_Store "lose_content" (sp_Store_lose_content C_Store C_Record G)) (M_Store_damage_content : Kn.MtX P w K mg base 4 C_Store "damage_content" (sp_Store_damage_content C_Store C_Record G)) (M_Store_record_count : Kn.Mt P w K mg base 1 C_Store "record_count" (sp_Store_record_count C_Store C_Record K)) (M_Store_kept_records : Kn.Mt P w K mg base 1 C_Store "kept_records" (sp_Store_kept_records C_Store C_Record K)) (M_Store_lose_record : Kn.MtX P w K mg base 4 C_Store "lose_record" (sp_Store_lose_record C_Store C_Record G)) (M_Store_damage_record : Kn.MtX P w K mg base 4 C_Store "damage_record" (sp_Store_damage_record C_Store C_Record G)) : FnOk P w K mg base CX0 6 f fd ["script", "at", "book", "jobs"] (sp__law_make_store C_Store C_Record C_Rule C_Book C_Job G) := by
  refine F.ok sc__law_make_store (fun vs H Q E h => ?_) (fun cdv A outer s H vs Q E hr h => ?_)
  · obtain ⟨a, b, jl, j0, j1, ns, rfl, _⟩ := h
    rfl
  · obtain ⟨a, b, jl, j0, j1, ns, rfl, hS, B, hjl, J0, J1, q⟩ := h
    refine ⟨_, (pss_cons (ps_set (i := 4) sc__law_make_store.nd rfl (Or.inl rfl) (Kn.pe_mkrD0 M_Store hr (by decide) (by rfl)))
      (pss_cons (ps_set (i := 5) sc__law_make_store.nd rfl (Or.inl rfl) (pe_lst (pa_cons pe_str (pa_cons pe_str (pa_cons pe_str (pa_cons pe_str (pa_cons pe_str (pa_cons (pe_op Kn.op_mulS pe_str pe_int) pa_nil))))))))
      (pss_cons (ps_for PassesOwn.never rfl (pi_range1 rfl T.b_range (pa_cons pe_int pa_nil)) (pg_name (i := 6) sc__law_make_store.nd rfl (Or.inl rfl)) (pss_cons (ps_set (i := 7) sc__law_make_store.nd rfl (Or.inl rfl) (pe_callB Kn.cr_abs (by rfl) T.b_abs (by decide +kernel) (pa_cons (Kn.pe_cl C__law_cell hr (by decide) (by rfl) (pa_cons (pv 0) (pa_cons (pe_op op_add (pv 1) (pv 6)) pa_nil))) pa_nil)))
      (pss_one (ps_if (pt_cmpR op_eq (pe_op op_mod (pv 7) pe_int) pe_int (nomark _)) (pss_one (ps_expr (Kn.pe_mt M_Store_put_content hr (by decide) (pv 4) (pa_cons (pe_ix ix_list (pv 5) (pe_op op_mod (pe_op op_fdiv (pv 7) pe_int) pe_int) (fun _ _ => rfl)) pa_nil)))) (pss_cons (ps_set (i := 8) sc__law_make_store.nd rfl (Or.inl rfl) (pe_ix ix_list (pv 3) (pe_op op_mod (pe_op op_fdiv (pv 7) pe_int) (pe_callB Kn.cr_lenSeq (by rfl) T.b_len PySem.boot_len (pa_cons (pv 3) pa_nil))) (fun _ _ => rfl)))
      (pss_cons (ps_set (i := 9) sc__law_make_store.nd rfl (Or.inl rfl) (Kn.pe_cl C_rule_key hr (by decide) (by rfl) (pa_cons (pv 2) (pa_cons (pv 8) pa_nil))))
      (pss_cons (ps_if (pt_cmpR op_eq (pe_op op_mod (pe_op op_fdiv (pv 7) pe_int) pe_int) pe_int (nomark _)) (pss_one (ps_set (i := 9) sc__law_make_store.nd rfl (Or.inl rfl) (pe_op op_add (pv 9) pe_int))) pss_nil)
      (pss_cons (ps_set (i := 10) sc__law_make_store.nd rfl (Or.inl rfl) (pe_fld (pv 8) rfl))
      (pss_cons (ps_if (pt_cmpR op_eq (pe_op op_mod (pe_op op_fdiv (pv 7) pe_int) pe_int) pe_int (nomark _)) (pss_one (ps_set (i := 10) sc__law_make_store.nd rfl (Or.inl rfl) (pe_op op_catT (pv 10) (pe_tup (pa_cons pe_str pa_nil))))) pss_nil)
      (pss_cons (ps_set (i := 11) sc__law_make_store.nd rfl (Or.inl rfl) (pe_lst pa_nil))
      (pss_cons (ps_for PassesOwn.never rfl (pi_range1 rfl T.b_range (pa_cons (pe_callB Kn.cr_lenSeq (by rfl) T.b_len PySem.boot_len (pa_cons (pv 10) pa_nil)) pa_nil)) (pg_name (i := 12) sc__law_make_store.nd rfl (Or.inl rfl)) (pss_cons (ps_expr (pe_bm PySem.F.plainAttrs_list PySem.F.slot_list_append PySem.F.type_list_append mt_append (pv 11) (pa_cons (Kn.pe_cl C_content_key hr (by decide) (by rfl) (pa_cons (pe_ix ix_list (pv 5) (pe_op op_mod (pe_op op_fdiv (pv 7) (pe_op op_add pe_int (pe_op op_mul pe_int (pv 12)))) pe_int) (fun _ _ => rfl)) pa_nil)) pa_nil)))
      (pss_one (ps_if (pt_cmpR op_gt (pe_op op_mod (pe_op op_fdiv (pv 7) pe_int) pe_int) pe_int (nomark _)) (pss_one (ps_expr (Kn.pe_mt M_Store_put_content hr (by decide) (pv 4) (pa_cons (pe_ix ix_list (pv 5) (pe_op op_mod (pe_op op_fdiv (pv 7) (pe_op op_add pe_int (pe_op op_mul pe_int (pv 12)))) pe_int) (fun _ _ => rfl)) pa_nil)))) pss_nil))))
      (pss_cons (ps_set (i := 13) sc__law_make_store.nd rfl (Or.inl rfl) (pe_slice L2.sl_tupA (pe_tup (pa_cons (pe_tup (pa_cons pe_str (pa_cons pe_str (pa_cons pe_non pa_nil)))) (pa_cons (pe_tup (pa_cons pe_str (pa_cons pe_str (pa_cons pe_int pa_nil)))) (pa_cons (pe_tup (pa_cons pe_str (pa_cons pe_str (pa_cons (pe_cmpR op_eq (pe_op op_mod (pv 7) pe_int) pe_int (nomark _)) pa_nil)))) pa_nil)))) po_none (po_some (pe_op op_mod (pe_op op_fdiv (pv 7) pe_int) pe_int))))
      (pss_one (ps_expr (Kn.pe_mt M_Store_add_record hr (by decide) (pv 4) (pa_cons (Kn.pe_mkr M_Record hr (by decide) (by rfl) (pa_cons (pv 10) (pa_cons (pv 9) (pa_cons (pv 13) (pa_cons (pe_callTy Kn.cr_tupS (by rfl) T.b_tuple (by decide +kernel) (pa_cons (pv 11) pa_nil)) pa_nil))))) pa_nil))))))))))))))))
      (pss_cons (ps_for PassesOwn.never rfl (pi_range1 rfl T.b_range (pa_cons pe_int pa_nil)) (pg_name (i := 6) sc__law_make_store.nd rfl (Or.inl rfl)) (pss_cons (ps_set (i := 7) sc__law_make_store.nd rfl (Or.inl rfl) (pe_callB Kn.cr_abs (by rfl) T.b_abs (by decide +kernel) (pa_cons (Kn.pe_cl C__law_cell hr (by decide) (by rfl) (pa_cons (pv 0) (pa_cons (pe_op op_add (pe_op op_add (pv 1) pe_int) (pv 6)) pa_nil))) pa_nil)))
      (pss_cons (ps_set (i := 14) sc__law_make_store.nd rfl (Or.inl rfl) (Kn.pe_mt0 M_Store_content_keys hr (by decide) (pv 4)))
      (pss_one (ps_if (PW.pt (pw_and (pt_cmpR op_eq (pe_op op_mod (pv 7) pe_int) pe_int (nomark _)) (pw_and1 (pt_cmpR op_gt (pe_callB Kn.cr_lenSeq (by rfl) T.b_len PySem.boot_len (pa_cons (pv 14) pa_nil)) pe_int (nomark _))))) (pss_one (ps_expr (Kn.pe_mtX M_Store_lose_content hr (by decide) takes0 (pv 4) (pa_cons (pe_ix ix_list (pv 14) (pe_op op_mod (pe_op op_fdiv (pv 7) pe_int) (pe_callB Kn.cr_lenSeq (by rfl) T.b_len PySem.boot_len (pa_cons (pv 14) pa_nil))) (fun _ _ => rfl)) pa_nil)))) (pss_one (ps_if (PW.pt (pw_and (pt_cmpR op_eq (pe_op op_mod (pv 7) pe_int) pe_int (nomark _)) (pw_and1 (pt_cmpR op_gt (pe_callB Kn.cr_lenSeq (by rfl) T.b_len PySem.boot_len (pa_cons (pv 14) pa_nil)) pe_int (nomark _))))) (pss_one (ps_expr (Kn.pe_mtX M_Store_damage_content hr (by decide) takes0 (pv 4) (pa_cons (pe_ix ix_list (pv 14) (pe_op op_mod (pe_op op_fdiv (pv 7) pe_int) (pe_callB Kn.cr_lenSeq (by rfl) T.b_len PySem.boot_len (pa_cons (pv 14) pa_nil))) (fun _ _ => rfl)) (pa_cons (pe_ix ix_list (pe_lst (pa_cons pe_str (pa_cons pe_str (pa_cons pe_str pa_nil)))) (pe_op op_mod (pe_op op_fdiv (pv 7) pe_int) pe_int) (fun _ _ => rfl)) pa_nil))))) (pss_one (ps_if (PW.pt (pw_and (pt_cmpR op_gt (pe_op op_mod (pv 7) pe_int) pe_int (nomark _)) (pw_and1 (pt_cmpR op_gt (Kn.pe_mt0 M_Store_record_count hr (by decide) (pv 4)) pe_int (nomark _))))) (pss_cons (ps_set (i := 15) sc__law_make_store.nd rfl (Or.inl rfl) (pe_op op_mod (pe_op op_fdiv (pv 7) pe_int) (Kn.pe_mt0 M_Store_record_count hr (by decide) (pv 4))))
      (pss_one (ps_if (pt_cmpR op_notN1 (pe_ix ix_list (Kn.pe_mt0 M_Store_kept_records hr (by decide) (pv 4)) (pv 15) (fun _ _ => rfl)) pe_non (nomark _)) (pss_one (ps_if (pt_cmpR op_eq (pe_op op_mod (pv 7) pe_int) pe_int (nomark _)) (pss_one (ps_expr (Kn.pe_mtX M_Store_lose_record hr (by decide) takes0 (pv 4) (pa_cons (pv 15) pa_nil)))) (pss_one (ps_expr (Kn.pe_mtX M_Store_damage_record hr (by decide) takes0 (pv 4) (pa_cons (pv 15) (pa_cons (pe_ix ix_list (pe_lst (pa_cons pe_str (pa_cons pe_str pa_nil))) (pe_op op_mod (pe_op op_fdiv (pv 7) pe_int) pe_int) (fun _ _ => rfl)) pa_nil))))))) pss_nil))) pss_nil)))))))))
      (pss_one (ps_ret (pv 4))))))), ?_⟩
    have no : ∀ {d r : Addr} {m : Str}, ¬ m = "_rows" → ¬ m = "_texts" → ¬ m = "journal" → (fldS d r).lookup m = none := fun h1 h2 h3 => fld_no _ _ h1 h2 h3
    intro p dx1 np1 nx1 ne1
    refine ⟨p, dx1, rfl, upd_same, fun d r H1 nd nr S1 k1 => ⟨rfl, ?_⟩⟩
    have e01 : Ex H H1 := fun b o hb => k1 b o (by rw [upd_ne (ne_of_none hb np1), upd_ne (ne_of_none hb nx1)]; exact hb) (ne_of_none hb np1)
    have nd0 : H d = none := upd_none (upd_none nd)
    have nr0 : H r = none := upd_none (upd_none nr)
    refine q_asgL (xs := tx6.map fun l => V.str (S l)) (el_lst (ea_cons (ev_cS rfl) (ea_cons (ev_cS rfl) (ea_cons (ev_cS rfl) (ea_cons (ev_cS rfl) (ea_cons (ev_cS rfl) (ea_cons (ev_mul1 (c := 120) (n := 30) rfl ev_c rfl (by decide)) ea_nil)))))) (by show 6 ≤ 100000; decide)) fun tl H2 ntl e2 htl => ?_
    have ntr : tl ≠ r := fun z => by rw [z, S1.rc] at ntl; cases ntl
    refine q_forR1 (n := 12) (ea_cons ev_c ea_nil) ⟨by decide, by decide⟩ (fun k σ' H' => ∃ (kvs : List (Key × V)) (xs : List V) (y6 y7 y8 y9 y10 y11 y12 y13 : Option V), σ' = [some (.ref a), some (.int ((0 : Nat) : Int)), some (.ref b), some (.ref jl), some (.ref p), some (.ref tl), y6, y7, y8, y9, y10, y11, y12, y13, none, none] ∧ Wd H H' p d r tl C_Store kvs xs (3 * k) k) (fun H3 e3 => ⟨[], [], _, _, _, _, _, _, _, _, rfl, (e01.trans e2).trans e3, e3 _ _ htl, (S1.mono e2).mono e3, Gd.nil, Nat.le_refl 0⟩) ?_ ?_
    · rintro k σ' H3 hk ⟨kvs, xs, y6, y7, y8, y9, y10, y11, y12, y13, rfl, W3⟩
      have hk12 : k < 12 := by omega
      refine q_asg (v := .int (((L2.cellOf ns k).natAbs : Nat) : Int)) (ev_cellA (c := k) (ea_cons (ev_var rfl) (ea_cons (ev_is (ev_op (ev_var rfl) (ev_var rfl) rv_I0) (by simp)) ea_nil)) (ex_l W3.ex hS)) fun H4 e4 => ?_
      generalize (L2.cellOf ns k).natAbs = c
      have W4 := W3.mono e4
      refine s_if (b := decide (c % 4 = 0)) (et_is (et_test (ev_op (ev_mod (m := 4) (ev_var rfl) rfl (by decide)) ev_c rv_eqI)) (by rw [decide_eq_decide]; omega)) (fun _ H5 e5 => ?_) (fun _ H5 e5 => ?_)
      · have W5 := W4.mono e5
        obtain ⟨dx, hp⟩ := W5.st.ob
        obtain ⟨l, hl, hx⟩ := tx6_at (c / 4 % 6) (Nat.mod_lt _ (by decide))
        refine ⟨_, rfl, p, dx, _, rfl, hp, no (by decide +kernel) (by decide +kernel) (by decide +kernel), ?_⟩
        refine ea_cons (ev_op (ev_var rfl) (ev_mod (m := 6) (ev_div (m := 4) (ev_var rfl) rfl (by decide)) rfl (by decide)) (rv_ixL (sq_of W5.tl) (atI_nat hx))) ea_nil H5 (Ex.refl _) _ fun H6 e6 => ?_
        have W6 := W5.mono e6
        have hlen := (tx6_ok l hl).1
        refine ⟨p, d, r, kvs, xs, l, rfl, W6.st, (tx6_K hl).txl, by have := W6.gd.len; omega, fun H7 T7 k7 => ?_⟩
        exact ⟨_, _, _, _, _, _, _, _, _, _, rfl, (W6.d nd0 T7 (W6.gd.put (tx6_K hl) (tx6_K hl) (by omega) (by omega)) k7).up (by omega) (by omega)⟩
      · have W5 := W4.mono e5
        obtain ⟨jb, hx, J⟩ : ∃ jb, ([V.ref j0, .ref j1] : List V)[c / 4 % 2]? = some (.ref jb) ∧ JbO C_Job H jb (c / 4 % 2) := by
          have h2 : c / 4 % 2 < 2 := Nat.mod_lt _ (by decide)
          rcases ix2 h2 with z | z
          · rw [z]; exact ⟨j0, rfl, J0⟩
          · rw [z]; exact ⟨j1, rfl, J1⟩
        have hi : c / 4 % 2 < 2 := Nat.mod_lt _ (by decide)
        have hq : ((c / 4 : Nat) : Int) % (2 : Int) = ((c / 4 % 2 : Nat) : Int) := by omega
        generalize c / 4 % 2 = i at hx J hi hq
        refine q_asg (v := .ref jb) (ev_op (ev_var rfl) (ev_is (ev_op (ev_div (m := 4) (ev_var rfl) rfl (by decide)) (ev_len (ev_var rfl) (sq_of (W5.ex _ _ hjl))) (rv_mod (by show (0 : Int) < 2; decide))) (show _ = V.int ((i : Nat) : Int) from congrArg V.int hq)) (rv_ixL (sq_of (W5.ex _ _ hjl)) (atI_nat hx))) fun H6 e6 => ?_
        have W6 := W5.mono e6
        obtain ⟨dxj, oa, ob, hj, ho⟩ := J.ex
        refine q_asg (v := .int ((key (rkT i) : Nat) : Int)) (ev_call' (ea_cons (ev_var rfl) (ea_cons (ev_var rfl) ea_nil)) fun H7 e7 Q q E => ⟨b, jb, i, rfl, hi, B.mono (W6.ex.trans e7), J.mono (W6.ex.trans e7), q⟩) fun H7 e7 => ?_
        have W7 := W6.mono e7
        obtain ⟨pp, hpp, hp2⟩ : ∃ pp : Nat, pp = (if c / 40 % 4 = 1 then 1 else 0) ∧ pp < 2 := ⟨_, rfl, by split <;> decide⟩
        refine q_ifAsg (v := .int ((key (rkT i) + pp : Nat) : Int)) (b := decide (c / 40 % 4 = 1)) (et_is (et_test (ev_op (ev_mod (m := 4) (ev_div (m := 40) (ev_var rfl) rfl (by decide)) rfl (by decide)) ev_c rv_eqI)) (by rw [decide_eq_decide]; omega)) (fun hb => ?_) (fun hb => ?_) fun H8 e8 => ?_
        · rw [hpp, if_pos (of_decide_eq_true hb)]
          exact ev_is (ev_op (ev_var rfl) ev_c rv_I0) (by rw [Int.natCast_add]; rfl)
        · rw [hpp, if_neg (of_decide_eq_false hb)]
          rfl
        have W8 := W7.mono e8
        refine q_asg (v := .ref oa) (ev_fld (ev_var rfl) (W8.ex _ _ hj) TC_Job.cl TC_Job.na_outputs (fj_o i oa ob)) fun H9 e9 => ?_
        have W9 := W8.mono e9
        have ho9 := W9.ex _ _ ho
        obtain ⟨mo, hmo⟩ : ∃ mo : Bool, mo = decide (c / 160 % 5 = 2) := ⟨_, rfl⟩
        have rne : strsV (rOut i) ≠ [] := by rcases ix2 hi with rfl | rfl <;> decide
        have rle : (strsV (rOut i)).length + 1 ≤ 100000 := by rcases ix2 hi with rfl | rfl <;> decide
        refine q_ifF (b := mo) (et_is (et_test (ev_op (ev_mod (m := 5) (ev_div (m := 160) (ev_var rfl) rfl (by decide)) rfl (by decide)) ev_c rv_eqI)) (by rw [hmo, decide_eq_decide]; omega)) (fun σ' H' => ∃ o, σ' = [some (.ref a), some (.int ((0 : Nat) : Int)), some (.ref b), some (.ref jl), some (.ref p), some (.ref tl), some (.int (k : Int)), some (.int (c : Int)), some (.ref jb), some (.int ((key (rkT i) + pp : Nat) : Int)), some (.ref o), y11, y12, y13, none, none] ∧ Wd H H' p d r tl C_Store kvs xs (3 * k) k ∧ H' o = some (.tup (strsV (outsL i mo)))) (fun Tz hTz hb H10 e10 => ?_) (fun hb H10 e10 => ⟨oa, rfl, W9.mono e10, ?_⟩) ?_
        · refine s_asgU (xs := strsV (rOut i) ++ [.str (S (lit "more"))]) (eu_catV (ev_var rfl) (e10 _ _ ho9) (eu_tup (ea_cons (ev_cS (l := lit "more") rfl) ea_nil) (by show 1 ≤ 100000; decide)) rle rne (List.cons_ne_nil _ _)) fun o H11 no11 e11 ho11 => hTz _ _ ⟨o, rfl, (W9.mono e10).mono e11, ?_⟩
          rw [ho11]
          unfold outsL strsV
          rw [if_pos hb, List.map_append]
          rfl
        · unfold outsL
          rw [if_neg (by rw [hb]; decide), List.append_nil]
          exact e10 _ _ ho9
        rintro σ' H10 ⟨o, rfl, W10, ho10⟩
        refine q_asgL (xs := []) (el_lst ea_nil (by decide)) fun rl H11 nrl e11 hrl => ?_
        have W11 := W10.mono e11
        have ho11 := e11 _ _ ho10
        have nld : rl ≠ d := fun z => by rw [z, W10.st.dc] at nrl; cases nrl
        have nlr : rl ≠ r := fun z => by rw [z, W10.st.rc] at nrl; cases nrl
        have olen := (outs_fix i hi mo).2.1
        have dv : ∀ {σ : L2.St} {H' : Hp} {j : Nat}, σ[7]? = some (some (.int (c : Int))) → σ[12]? = some (some (.int (j : Int))) → j < 3 → Ev (tOp (rI CDiv fun i j => .int (i / j)) (tVar 7) (tOp (rI0 fun i j => .int (i + j)) (tC (.int 800)) (tOp (rI CMul fun i j => .int (i * j)) (tC (.int 6)) (tVar 12)))) σ H' (.int ((c / (800 + 6 * j) : Nat) : Int)) := fun {σ H' j} h7 h12 hj => by
          have dd : Ev (tOp (rI0 fun i j => .int (i + j)) (tC (.int 800)) (tOp (rI CMul fun i j => .int (i * j)) (tC (.int 6)) (tVar 12))) σ H' (.int ((800 + 6 * j : Nat) : Int)) := ev_is (ev_op ev_c (ev_op ev_c (ev_var h12) (rv_mul (.inl ⟨by decide, by decide⟩))) rv_I0) (congrArg V.int (by omega))
          exact ev_is (ev_op (ev_var h7) dd (rv_fdiv ⟨by omega, by omega⟩)) (congrArg V.int (Int.natCast_ediv c (800 + 6 * j)).symm)
        refine q_forR1 (n := ((outsL i mo).length : Int)) (ea_cons (ev_is (ev_lenT (ev_var rfl) ho11) (by unfold strsV; rw [List.length_map])) ea_nil) ⟨by omega, by omega⟩ (fun j σ' H' => ∃ (kvs' : List (Key × V)) (rs : List (List Nat)) (y12 : Option V), σ' = [some (.ref a), some (.int ((0 : Nat) : Int)), some (.ref b), some (.ref jl), some (.ref p), some (.ref tl), some (.int (k : Int)), some (.int (c : Int)), some (.ref jb), some (.int ((key (rkT i) + pp : Nat) : Int)), some (.ref o), some (.ref rl), y12, y13, none, none] ∧ Wd H H' p d r tl C_Store kvs' xs (3 * k + j) k ∧ H' o = some (.tup (strsV (outsL i mo))) ∧ H' rl = some (.lst (rs.map fun l => V.int ((key l : Nat) : Int))) ∧ rs.length = j ∧ ∀ l ∈ rs, l ∈ tx6) (fun H12 e12 => ⟨kvs, [], _, rfl, W11.mono e12, e12 _ _ ho11, e12 _ _ hrl, rfl, fun _ h => nomatch h⟩) ?_ ?_
        · rintro j σ' H12 hj ⟨kvs', rs, y12, rfl, W12, ho12, hrl12, hrn, hr6⟩
          have hj3 : j < 3 := by omega
          obtain ⟨l, hl, hlx⟩ := tx6_at (c / (800 + 6 * j) % 6) (Nat.mod_lt _ (by decide))
          have hlk := tx6_K hl
          have nrp0 : H rl = none := by
            cases hz : H rl with
            | none => rfl
            | some o' => rw [W10.ex _ _ hz] at nrl; cases nrl
          refine q_app (v := .int ((key l : Nat) : Int)) hrl12 (ev_var rfl) (ev_c1 (a := l) (ea_cons (ev_op (ev_var rfl) (ev_mod (m := 6) (dv rfl rfl hj3) rfl (by decide)) (rv_ixL (sq_of W12.tl) (atI_nat hlx))) ea_nil) fun _ _ => hlk.txl) (by rw [List.length_map]; omega) fun H13 e13 => ?_
          have W13 := (W12.mono e13).side (zs := (rs.map fun l => V.int ((key l : Nat) : Int)) ++ [.int ((key l : Nat) : Int)]) (e13 _ _ hrl12) nrp0 (fun z => by have := W10.tl; rw [z, nrl] at this; cases this) nlr.symm
          have nor : o ≠ rl := ne_of ho12 hrl12 (by intro z; cases z)
          have ho13 : L2.upd H13 rl (.lst ((rs.map fun l => V.int ((key l : Nat) : Int)) ++ [.int ((key l : Nat) : Int)])) o = some (.tup (strsV (outsL i mo))) := by rw [upd_ne nor]; exact e13 _ _ ho12
          have hrl13 : L2.upd H13 rl (.lst ((rs.map fun l => V.int ((key l : Nat) : Int)) ++ [.int ((key l : Nat) : Int)])) rl = some (.lst ((rs ++ [l]).map fun l => V.int ((key l : Nat) : Int))) := by rw [List.map_append]; exact upd_same
          generalize L2.upd H13 rl (.lst ((rs.map fun l => V.int ((key l : Nat) : Int)) ++ [.int ((key l : Nat) : Int)])) = H14 at W13 ho13 hrl13
          have hr7 : ∀ l' ∈ rs ++ [l], l' ∈ tx6 := fun l' hm => by
            rcases List.mem_append.mp hm with z | z
            · exact hr6 l' z
            · rw [List.mem_singleton.mp z]; exact hl
          have hrn7 : (rs ++ [l]).length = j + 1 := by rw [List.length_append, hrn]; rfl
          refine s_when (b := decide (0 < c / 5000 % 3)) (et_is (et_test (ev_op (ev_mod (m := 3) (ev_div (m := 5000) (ev_var rfl) rfl (by decide)) rfl (by decide)) ev_c rv_gt)) (by rw [decide_eq_decide]; omega)) (fun _ H15 e15 => ?_) fun _ H15 e15 => ⟨kvs', rs ++ [l], _, rfl, (W13.mono e15).up (by omega) (Nat.le_refl _), e15 _ _ ho13, e15 _ _ hrl13, hrn7, hr7⟩
          have W15 := W13.mono e15
          obtain ⟨dx, hp⟩ := W15.st.ob
          refine ⟨_, rfl, p, dx, _, rfl, hp, no (by decide +kernel) (by decide +kernel) (by decide +kernel), ?_⟩
          refine ea_cons (ev_op (ev_var rfl) (ev_mod (m := 6) (dv rfl rfl hj3) rfl (by decide)) (rv_ixL (sq_of W15.tl) (atI_nat hlx))) ea_nil H15 (Ex.refl _) _ fun H16 e16 => ?_
          have W16 := W15.mono e16
          have hlen := (tx6_ok l hl).1
          refine ⟨p, d, r, kvs', xs, l, rfl, W16.st, hlk.txl, by have := W16.gd.len; omega, fun H17 T17 k17 => ?_⟩
          exact ⟨_, rs ++ [l], _, rfl, (W16.d nd0 T17 (W16.gd.put hlk hlk (by omega) (by omega)) k17).up (by omega) (Nat.le_refl _), k17 _ _ (e16 _ _ (e15 _ _ ho13)) (ne_of (e16 _ _ (e15 _ _ ho13)) W16.st.dc (by intro z; cases z)), k17 _ _ (e16 _ _ (e15 _ _ hrl13)) nld, hrn7, hr7⟩
        · rintro σ' H12 ⟨kvs', rs, y12, rfl, W12, ho12, hrl12, hrn, hr6⟩
          refine q_asgOf (needs_go (n := c / 15000 % 4) (bb := decide (c % 3 = 1)) (Nat.mod_lt _ (by decide)) (fun _ _ => eo_none) (fun H13 e13 => ev_mod (m := 4) (ev_div (m := 15000) (ev_var rfl) rfl (by decide)) rfl (by decide)) (fun H13 e13 => ev_is (ev_op (ev_mod (m := 3) (ev_var rfl) rfl (by decide)) ev_c rv_eqI) (congrArg V.bl (by rw [decide_eq_decide]; omega))) fun qn as H13 e13 hqn hpn => ?_)
          try unfold gName
          dsimp only
          have W13 := W12.mono e13
          have hrl13 := e13 _ _ hrl12
          have ho13 := e13 _ _ ho12
          obtain ⟨dx, hp0⟩ := W13.st.ob
          obtain ⟨fn, fk⟩ := rec_fn (mo := mo) (b := decide (c % 3 = 1)) hi hp2 (Nat.mod_lt (c / 15000) (show 0 < 4 by decide)) hr6 (by rw [hrn]; exact Int.toNat_natCast _)
          refine ⟨_, rfl, p, dx, _, rfl, hp0, no (by decide +kernel) (by decide +kernel) (by decide +kernel), ?_⟩
          refine tcons_open ?_
          refine tcons_open ⟨_, rfl, tcons_open ⟨_, rfl, tcons_open ⟨_, rfl, tcons_open ?_⟩⟩⟩
          refine eu_tupV (ev_var rfl) hrl13 H13 (Ex.refl _) _ fun u H14 nu e14 hu => ?_
          have W14 := W13.mono e14
          intro rp dxr npr nxr ner
          refine ⟨rp, dxr, o, qn, u, key (rkT i) + pp, rfl, upd_same, fun H15 h15 k15 => ⟨rfl, ?_⟩⟩
          have e15 : Ex H14 H15 := fun b' x hb => k15 b' x (by rw [upd_ne (ne_of_none hb npr), upd_ne (ne_of_none hb nxr)]; exact hb) (ne_of_none hb npr)
          have W15 := W14.mono e15
          have RO : RcO C_Record H15 rp (recL i pp (c / 15000 % 4) mo (decide (c % 3 = 1)) rs) := ⟨dxr, o, qn, u, as, h15, e15 _ _ (e14 _ _ ho13), e15 _ _ (e14 _ _ hqn), Paired.mapP hpn fun _ _ z => e15 _ _ (e14 _ _ z), by
            have z := e15 _ _ hu
            rw [z]
            refine congrArg (fun z => some (HO.tup z)) ?_
            show _ = (rs.map key).map _
            rw [List.map_map]
            rfl⟩
          refine ⟨p, d, r, rp, _, kvs', xs, rfl, W15.st, RO, fn, fk, by have := W15.xl; omega, fun y H16 T16 k16 => ?_⟩
          exact ⟨_, _, _, _, _, _, _, _, _, _, rfl, (W15.r nr0 ntr T16 (by rw [List.length_append]; have := W15.xl; exact Nat.succ_le_succ this) k16).up (by omega) (Nat.le_refl _)⟩
    · rintro σ' H3 ⟨kvs, xs, y6, y7, y8, y9, y10, y11, y12, y13, rfl, W3⟩
      have W3 : Wd H H3 p d r tl C_Store kvs xs 36 12 := W3.up (by omega) (by omega)
      refine q_forR1 (n := 6) (ea_cons ev_c ea_nil) ⟨by decide, by decide⟩ (fun k σ' H' => ∃ (kvs : List (Key × V)) (xs : List V) (y6 y7 y14 y15 : Option V), σ' = [some (.ref a), some (.int ((0 : Nat) : Int)), some (.ref b), some (.ref jl), some (.ref p), some (.ref tl), y6, y7, y8, y9, y10, y11, y12, y13, y14, y15] ∧ Wd H H' p d r tl C_Store kvs xs 36 12) (fun H4 e4 => ⟨kvs, xs, _, _, _, _, rfl, W3.mono e4⟩) ?_ ?_
      · rintro k σ' H4 hk ⟨kvs, xs, y6, y7, y14, y15, rfl, W4⟩
        have hk6 : k < 6 := by omega
        refine q_asg (v := .int (((L2.cellOf ns (12 + k)).natAbs : Nat) : Int)) (ev_cellA (c := 12 + k) (ea_cons (ev_var rfl) (ea_cons (ev_is (ev_op (ev_op (ev_var rfl) ev_c rv_I0) (ev_var rfl) rv_I0) (by simp)) ea_nil)) (ex_l W4.ex hS)) fun H5 e5 => ?_
        generalize (L2.cellOf ns (12 + k)).natAbs = c
        have W5 := W4.mono e5
        obtain ⟨tx, rfl, g1, g2, g3, g4⟩ := id W5.gd.ex
        obtain ⟨dx, hp⟩ := id W5.st.ob
        refine q_asgL (xs := (srt2 tx).map fun x => V.int (kO x)) (el_meth' (ev_var rfl) hp (no (by decide +kernel) (by decide +kernel) (by decide +kernel)) ea_nil fun H6 e6 Q q E => ⟨p, d, r, kvO tx, xs, tx.map kO, rfl, W5.st.mono e6, kvO_keys tx, by rw [List.length_map]; omega, fun zs hperm hs => ?_⟩) fun kl H6 nkl e6 hkl => ?_
        · rw [ints_uniq hs (srt2_pw tx) (hperm.trans ((srt2_perm tx).map kO).symm), List.map_map]
          exact q
        have W6 := W5.mono e6
        have ke : ∀ i, i < tx.length → ∃ x ∈ tx, ((srt2 tx).map fun x => V.int (kO x))[i]? = some (.int (kO x)) := fun i hi => by
          have h : i < (srt2 tx).length := by rw [srt2_len]; exact hi
          exact ⟨(srt2 tx)[i], (srt2_perm tx).mem_iff.mp (List.getElem_mem h), by rw [List.getElem?_map, List.getElem?_eq_getElem h]; rfl⟩
        have md5 : ∀ {σ : L2.St} {H' : Hp}, σ[7]? = some (some (.int (c : Int))) → Ev (tOp (rI (fun _ j => 0 < j) fun i j => .int (i % j)) (tVar 7) (tC (.int 5))) σ H' (.int ((c % 5 : Nat) : Int)) := fun h => ev_mod (m := 5) (ev_var h) rfl (by decide)
        have dv5 : ∀ {σ : L2.St} {H' : Hp}, σ[7]? = some (some (.int (c : Int))) → Ev (tOp (rI CDiv fun i j => .int (i / j)) (tVar 7) (tC (.int 5))) σ H' (.int ((c / 5 : Nat) : Int)) := fun h => ev_div (m := 5) (ev_var h) rfl (by decide)
        have dv50 : ∀ {σ : L2.St} {H' : Hp}, σ[7]? = some (some (.int (c : Int))) → Ev (tOp (rI CDiv fun i j => .int (i / j)) (tVar 7) (tC (.int 50))) σ H' (.int ((c / 50 : Nat) : Int)) := fun h => ev_div (m := 50) (ev_var h) rfl (by decide)
        have lenE : ∀ {σ : L2.St} {H' : Hp}, σ[14]? = some (some (.ref kl)) → Ex H6 H' → Ev (tCB (rLenS K) (tCons (tVar 14) tNil)) σ H' (.int (tx.length : Int)) := fun h e => ev_is (ev_len (ev_var h) (sq_of (e _ _ hkl))) (by rw [List.length_map, srt2_len])
        have kix : ∀ {σ : L2.St} {H' : Hp} {x : List Nat × List Nat}, σ[7]? = some (some (.int (c : Int))) → σ[14]? = some (some (.ref kl)) → Ex H6 H' → 0 < tx.length → ((srt2 tx).map fun x => V.int (kO x))[c / 5 % tx.length]? = some (.int (kO x)) → Ev (tOp (rIxL K) (tVar 14) (tOp (rI (fun _ j => 0 < j) fun i j => .int (i % j)) (tOp (rI CDiv fun i j => .int (i / j)) (tVar 7) (tC (.int 5))) (tCB (rLenS K) (tCons (tVar 14) tNil)))) σ H' (.int (kO x)) := fun h7 h14 e hz hx =>
          ev_op (ev_var h14) (ev_is (ev_op (dv5 h7) (lenE h14 e) (rv_mod (by omega))) (congrArg V.int (Int.natCast_emod _ _).symm)) (rv_ixL (sq_of (e _ _ hkl)) (atI_nat hx))
        have W6s : ∀ {H' : Hp}, Ex H6 H' → Wd H H' p d r tl C_Store (kvO tx) xs 36 12 := fun e => W6.mono e
        refine s_if (b := decide (c % 5 = 1) && decide (0 < tx.length)) (et_and (et_eqN (m := 1) (md5 rfl) rfl) fun _ => et_is (et_test (ev_op (lenE rfl (Ex.refl _)) ev_c rv_gt)) (by rw [decide_eq_decide]; omega)) (fun hb H7 e7 => ?_) (fun _ H7 e7 => ?_)
        · rw [Bool.and_eq_true, decide_eq_true_eq, decide_eq_true_eq] at hb
          obtain ⟨x, hx, hxi⟩ := ke (c / 5 % tx.length) (Nat.mod_lt _ hb.2)
          have W7 := W6s e7
          obtain ⟨dx, hp⟩ := id W7.st.ob
          refine ⟨_, rfl, p, dx, _, rfl, hp, no (by decide +kernel) (by decide +kernel) (by decide +kernel), ?_⟩
          refine ea_cons (kix rfl rfl e7 hb.2 hxi) ea_nil H7 (Ex.refl _) _ fun H8 e8 => ?_
          have W8 := W7.mono e8
          refine ⟨p, d, r, kvO tx, xs, kO x, rfl, W8.st, fun hs => ?_, fun hs H9 T9 k9 => ⟨_, xs, _, _, _, _, rfl, W8.d nd0 T9 (W8.gd.drop _) k9⟩⟩
          rw [valV_kvO g3 x hx] at hs
          cases hs
        refine s_if (b := decide (c % 5 = 2) && decide (0 < tx.length)) (et_and (et_eqN (m := 2) (md5 rfl) rfl) fun _ => et_is (et_test (ev_op (lenE rfl e7) ev_c rv_gt)) (by rw [decide_eq_decide]; omega)) (fun hb H8 e8 => ?_) (fun _ H8 e8 => ?_)
        · rw [Bool.and_eq_true, decide_eq_true_eq, decide_eq_true_eq] at hb
          obtain ⟨x, hx, hxi⟩ := ke (c / 5 % tx.length) (Nat.mod_lt _ hb.2)
          obtain ⟨m, hm, hml, hmx⟩ := w3_at (c / 50 % 3) (Nat.mod_lt _ (by decide))
          have e78 := e7.trans e8
          have W8 := W6s e78
          obtain ⟨dx, hp⟩ := id W8.st.ob
          refine ⟨_, rfl, p, dx, _, rfl, hp, no (by decide +kernel) (by decide +kernel) (by decide +kernel), ?_⟩
          refine ea_cons (kix rfl rfl e78 hb.2 hxi) (ea_cons (ev_ixLit (el_lst (ea_cons (ev_cS (l := lit "x") rfl) (ea_cons (ev_cS (l := lit "damage") rfl) (ea_cons (ev_cS (l := []) rfl) ea_nil))) (by show 3 ≤ 100000; decide)) (ev_mod (m := 3) (dv50 rfl) rfl (by decide)) rfl hmx) ea_nil) H8 (Ex.refl _) _ fun H9 e9 => ?_
          have W9 := W8.mono e9
          have hxm : kO x ∈ tx.map kO := List.mem_map.mpr ⟨x, hx, rfl⟩
          refine ⟨p, d, r, kvO tx, xs, kO x, S m, rfl, W9.st, by rw [kvO_len]; omega, fun hs => ?_, fun hs H10 T10 k10 => ⟨_, xs, _, _, _, _, rfl, W9.d nd0 T10 (W9.gd.old hxm hm hml) k10⟩⟩
          rw [valV_kvO g3 x hx] at hs
          cases hs
        have e78 := e7.trans e8
        have W8 := W6s e78
        have rcE : ∀ {σ : L2.St} {H' : Hp}, σ[4]? = some (some (.ref p)) → Ex H8 H' → Ev (tMeth C_Store "record_count" (sp_Store_record_count C_Store C_Record K) [] E0 (tVar 4) tNil) σ H' (.int (xs.length : Int)) := fun {σ H'} h e => by
          have W' := W8.mono e
          obtain ⟨dx, hp⟩ := id W'.st.ob
          exact ev_meth (z := .int (xs.length : Int)) (ev_var h) hp (no (by decide +kernel) (by decide +kernel) (by decide +kernel)) ea_nil fun H9 e9 Q q E => ⟨p, d, r, kvO tx, xs, rfl, W'.st.mono e9, q⟩
        refine s_when (b := decide (2 < c % 5) && decide (0 < xs.length)) (et_and (et_is (et_test (ev_op (md5 rfl) ev_c rv_gt)) (by rw [decide_eq_decide]; omega)) fun _ => et_is (et_test (ev_op (rcE rfl (Ex.refl _)) ev_c rv_gt)) (by rw [decide_eq_decide]; omega)) (fun hb H9 e9 => ?_) (fun _ H9 e9 => ⟨_, xs, _, _, _, _, rfl, W8.mono e9⟩)
        rw [Bool.and_eq_true, decide_eq_true_eq, decide_eq_true_eq] at hb
        have hxl : xs.length ≤ 12 := W8.xl
        obtain ⟨i, hi, hix⟩ : ∃ i, i = c / 5 % xs.length ∧ i < xs.length := ⟨_, rfl, Nat.mod_lt _ hb.2⟩
        refine q_asg (v := .int (i : Int)) (ev_is (ev_op (dv5 rfl) (rcE rfl e9) (rv_mod (by omega))) (by rw [hi]; exact congrArg V.int (Int.natCast_emod _ _).symm)) fun H10 e10 => ?_
        have e910 := e9.trans e10
        have W10 := W8.mono e910
        obtain ⟨dx10, hp10⟩ := id W10.st.ob
        have hxi := List.getElem?_eq_getElem hix
        have tst : ∀ {bb : Bool}, (!decide (xs[i] = V.non)) = bb → EvT (tTest (tOp rNotN (tOp (rIxL K) (tMeth C_Store "kept_records" (sp_Store_kept_records C_Store C_Record K) [] E0 (tVar 4) tNil) (tVar 15)) (tC .non))) [some (.ref a), some (.int ((0 : Nat) : Int)), some (.ref b), some (.ref jl), some (.ref p), some (.ref tl), some (.int (k : Int)), some (.int (c : Int)), y8, y9, y10, y11, y12, y13, some (.ref kl), some (.int (i : Int))] H10 bb := fun hb => et_is (et_notN (ev_opL1 (el_meth' (ev_var rfl) hp10 (no (by decide +kernel) (by decide +kernel) (by decide +kernel)) ea_nil fun H11 e11 Q q E => ⟨p, d, r, kvO tx, xs, rfl, W10.st.mono e11, q⟩) (fun _ _ => ev_var rfl) fun _ H11 h _ => rv_ixL (sq_of h) (atI_nat hxi))) hb
        cases hat : atRow xs i with
        | none =>
          have hn := row_none W10.st.rv hat hxi
          exact s_when (b := false) (tst (by rw [hn]; rfl)) (fun z => nomatch z) fun _ H11 e11 => ⟨_, xs, _, _, _, _, rfl, W10.mono e11⟩
        | some ra =>
          have hra := row_some hat
          have hra2 : xs[i] = .ref ra := Option.some.inj (hxi.symm.trans hra)
          refine s_when (b := true) (tst (by rw [hra2]; rfl)) (fun _ H11 e11 => ?_) (fun z => nomatch z)
          have W11 := W10.mono e11
          refine s_if (b := decide (c % 5 = 3)) (et_eqN (m := 3) (md5 rfl) rfl) (fun _ H12 e12 => ?_) (fun _ H12 e12 => ?_)
          · have W12 := W11.mono e12
            obtain ⟨dx, hp⟩ := id W12.st.ob
            refine ⟨_, rfl, p, dx, _, rfl, hp, no (by decide +kernel) (by decide +kernel) (by decide +kernel), ?_⟩
            refine ea_cons (ev_var rfl) ea_nil H12 (Ex.refl _) _ fun H13 e13 => ?_
            have W13 := W12.mono e13
            refine ⟨p, d, r, i, kvO tx, xs, rfl, W13.st, by omega, fun hs => ?_, fun H14 T14 k14 => ⟨_, _, _, _, _, _, rfl, W13.r nr0 ntr T14 (by rw [List.length_set]; exact hxl) k14⟩⟩
            rw [hat] at hs
            cases hs
          · obtain ⟨m, hm, hmx⟩ := w2_at (c / 50 % 2) (Nat.mod_lt _ (by decide))
            have W12 := W11.mono e12
            obtain ⟨dx, hp⟩ := id W12.st.ob
            refine ⟨_, rfl, p, dx, _, rfl, hp, no (by decide +kernel) (by decide +kernel) (by decide +kernel), ?_⟩
            refine ea_cons (ev_var rfl) (ea_cons (ev_ixLit (el_lst (ea_cons (ev_cS (l := lit "x") rfl) (ea_cons (ev_cS (l := lit "a 128 - 1") rfl) ea_nil)) (by show 2 ≤ 100000; decide)) (ev_mod (m := 2) (dv50 rfl) rfl (by decide)) rfl hmx) ea_nil) H12 (Ex.refl _) _ fun H13 e13 => ?_
            have W13 := W12.mono e13
            refine ⟨p, d, r, i, m, kvO tx, xs, rfl, W13.st, hm, by omega, fun hs => ?_, fun t H14 T14 k14 => ⟨_, _, _, _, _, _, rfl, W13.r nr0 ntr T14 (by rw [List.length_set]; exact hxl) k14⟩⟩
            rw [hat] at hs
            cases hs
      · rintro σ' H4 ⟨kvs, xs, y6, y7, y14, y15, rfl, W4⟩
        obtain ⟨ys, hP, hR⟩ := rows_of W4.st.rv
        obtain ⟨tx, rfl, g1, g2, g3, g4⟩ := W4.gd.ex
        refine s_ret (v := .ref p) (ev_var rfl) fun H5 e5 => q p d r tx xs ys H5 np1 nd0 nr0 (W4.ex.trans e5) (W4.st.mono e5) ⟨g1, g2, g3, by omega⟩ ⟨hR, by rw [← pair_len hP]; have := W4.xl; omega⟩ (Paired.mapP hP fun _ _ z => z.mono e5)
end

--SPLIT
section
variable {P : Program} {w : World} {K : PySem.W.Frag} {mg : Str → Option Value} {base : Heap}
/-! ### the law -/
def sp__law_string (_ : PySem.W.Frag) : Sp := sp1 (fun l : List Nat => [.str (S l)]) (fun l _ => l.length ≤ 9000) (fun l => .str (S (wr l)))
theorem ok__law_string {f : Addr} {C_Store C_Record C_Rule C_Book C_Job C_StoreReader : Addr} {fd : FuncData} (F : Fun K "_law_string" "_law_string" s__law_string f fd) (T : Tx mg) (G : Gx K mg) (TC_Store : Tc_Store K C_Store) (TC_Record : Tc_Record K C_Record) (TC_Rule : Tc_Rule K C_Rule) (TC_Book : Tc_Book K C_Book) (TC_Job : Tc_Job K C_Job) (TC_StoreReader : Tc_StoreReader K C_StoreReader)  : FnOk P w K mg base CX0 1 f fd ["text"] (sp__law_string K) := by
  refine okT F sc__law_string (by decide +kernel) (by decide) (fun vs H Q E h => ?_) (fun cdv A outer s H vs Q E hr h => ?_)
  · obtain ⟨l, rfl, _⟩ := h
    rfl
  · obtain ⟨l, rfl, hl, q⟩ := h
    refine ⟨_, (CwR.psst_one (CwR.pst_ret (CwR.pet_op Kn.op_addS (CwR.pet_op Kn.op_addS (CwR.PET.of pe_str) (CwR.pet_replT (CwR.pet_replT (CwR.pet_replC (pv 0))))) (CwR.PET.of pe_str)))), ?_⟩
    have l1 := sub1_len (c := 92) (z := [92, 92]) (by decide) l
    have l2 := sub1_len (c := 34) (z := [92, 34]) (by decide) (sub1 92 [92, 92] l)
    have l3 := fm_len l
    exact s_ret (v := .str (S (wr l))) (ev_op (ev_op (ev_cS (l := [34]) rfl) (ev_is (ev_replA (c := 10) (z := [92, 110]) (ev_replA (c := 34) (z := [92, 34]) (ev_replA (c := 92) (z := [92, 92]) (ev_var rfl) rfl rfl (by omega) (by decide)) rfl rfl (by omega) (by decide)) rfl rfl (by omega) (by decide)) (show _ = V.str (S (fm l)) by rw [sub_comp])) (rv_addS (by show 1 + _ ≤ 100000; omega))) (ev_cS (l := [34]) rfl) (rv_addS (by rw [List.length_append]; show 1 + _ + 1 ≤ 100000; omega))) q
theorem cLn_eq (l m : List Nat) : ((lit "content " ++ wr l) ++ [32]) ++ wr m = cLn l m := by
  show _ = lit "content" ++ ([32] ++ (wr l ++ ([32] ++ wr m)))
  rw [show lit "content " = lit "content" ++ [32] by decide +kernel]
  simp only [List.append_assoc]
theorem rLn_eq (i : Nat) (l m : List Nat) : ((lit "record " ++ TL.numL i) ++ [32]) ++ ((wr l ++ [32]) ++ wr m) = rLn i l m := by
  show _ = lit "record" ++ ([32] ++ (TL.numL i ++ ([32] ++ (wr l ++ ([32] ++ wr m)))))
  rw [show lit "record " = lit "record" ++ [32] by decide +kernel]
  simp only [List.append_assoc]
theorem nLn_eq (i : Nat) : lit "records " ++ TL.numL i = nLn i := by
  show _ = lit "records" ++ ([32] ++ TL.numL i)
  rw [show lit "records " = lit "records" ++ [32] by decide +kernel, List.append_assoc]
theorem q_appO {σ : L2.St} {H : Hp} {D : Ends} {tz : TS} {ta : TE} {tt : TA} {l : Addr} {xs : List V} (ha : Ev ta σ H (.ref l)) (hl : H l = some (.lst xs)) (k : ∀ H1, Ex H H1 → tt σ H1 fun vs H2 => rAppend (.ref l) vs H2 fun _ H3 => tz D σ H3) : tSeq (tDrop (tBM K "list" rAppend ta tt)) tz D σ H := ha H (Ex.refl H) _ fun H1 e1 =>
  ⟨Or.inl ⟨rfl, xs, sq_of (e1 l _ hl)⟩, k H1 e1⟩
theorem evd_L {σ : L2.St} {H : Hp} {te : TE} {xs : List V} {ds : List PyData} (h : EvL te σ H xs) (hd : DtA H xs ds) : EvD te σ H (.list ds) := fun H1 e Q q => h H1 e _ fun p H2 _ e2 hp => q _ H2 e2 (.lst hp (hd.mono (e.trans e2)))
theorem srt2_idem (tx : Tx2) : srt2 (srt2 tx) = srt2 tx := by
  refine List.mergeSort_of_pairwise ?_
  exact (List.pairwise_map.mp (srt2_pw tx)).imp fun h => decide_eq_true h
theorem svT_srt (tx : Tx2) (ys : Rw2) : svT (srt2 tx) ys = svT tx ys := by
  unfold svT svL
  rw [srt2_idem]
def rcZ : Kn.Rp.Rc := ⟨[lit "z"], key (lit "z"), [], [key []]⟩
theorem rcZ_ok : Fn rcZ ∧ TxK (Kn.Rp.fmtRc rcZ) := by
  refine ⟨⟨⟨by decide, by decide, by decide +kernel, by decide +kernel, ?_, by decide, by decide, (fun _ h => nomatch h), rfl, ?_⟩, ?_⟩, ?_⟩
  · unfold Kn.Rp.GK; decide +kernel
  · unfold Kn.Rp.GK; decide +kernel
  · unfold Txl; decide +kernel
  · unfold TxK; decide +kernel

theorem RuO.upd {C : Addr} {H : Hp} {p r : Addr} {i : Nat} {xs ys : List V} (h : RuO C H p i) (hr : H r = some (.lst ys)) : RuO C (L2.upd H r (.lst xs)) p i := by
  obtain ⟨dx, a, b, c, h1, h2, h3, h4⟩ := h.ex
  refine ⟨dx, a, b, c, ?_, ?_, ?_, ?_⟩
  · rw [upd_ne (ne_of h1 hr (by intro z; cases z))]; exact h1
  · rw [upd_ne (ne_of h2 hr (by intro z; cases z))]; exact h2
  · rw [upd_ne (ne_of h3 hr (by intro z; cases z))]; exact h3
  · unfold BdO at *
    split
    · rename_i hi
      rw [if_pos hi] at h4
      rw [upd_ne (ne_of h4 hr (by intro z; cases z))]; exact h4
    · rename_i hi
      rw [if_neg hi] at h4
      obtain ⟨t, g1, g2⟩ := h4
      exact ⟨t, by rw [upd_ne (ne_of g1 hr (by intro z; cases z))]; exact g1, by rw [upd_ne (ne_of g2 hr (by intro z; cases z))]; exact g2⟩
theorem ev_isOwn {σ : L2.St} {H : Hp} {ta : TE} {a C dx : Addr} {fs : List (Str × V)} (h : Ev ta σ H (.ref a)) (ho : H a = some (.ins C dx fs)) (ty : ∀ {H : Hp} {a dx : Addr} {fs : List (Str × V)}, H a = some (.ins C dx fs) → TyOf K H (.ref a) (.ref C)) (hk : PySem.W.kitOne K (.ref C) (.ref C) = some true) : Ev (tCB (rIsi K) (tCons ta (tCons (tC (.ref C)) tNil))) σ H (.bl true) := fun H1 e Q q =>
  h H1 e _ fun H2 e2 => ⟨.ref a, .ref C, .ref C, .ref C, true, rfl, .own C, .base (ty ((e.trans e2) _ _ ho)), hk, q H2 e2⟩
theorem ne_same (x : V) : (!decide (x = x)) = false := by
  rw [decide_eq_true rfl]
  rfl
theorem kv_eq {H : Hp} {tx ty : Tx2} (hn : (ty.map kO).Nodup) (hm : ∀ x ∈ tx, x ∈ ty) : ∀ p ∈ kvO tx, ∃ u, valV (kvO ty) p.1 = some u ∧ EqW K H 1 p.2 u := fun p hp => by
  obtain ⟨x, hx, rfl⟩ := List.mem_map.mp hp
  exact ⟨_, valV_kvO hn x (hm x hx), .inl ⟨rfl, rfl⟩⟩
theorem ev_ktNe {σ : L2.St} {H : Hp} {to tb : TE} {C CR p d r dn : Addr} {tx ty : Tx2} {xs : List V} (h : Ev to σ H (.ref p)) (T : Sto C H p d r (kvO tx) xs) (hb : Ev tb σ H (.ref dn)) (hd : H dn = some (.dK (kvO ty))) (hl : tx.length = ty.length) (hn : (ty.map kO).Nodup) (hm : ∀ x ∈ tx, x ∈ ty) : Ev (tOp (rNeL K) (tMeth C "kept_texts" (sp_Store_kept_texts C CR K) [] E0 to tNil) tb) σ H (.bl false) := fun H1 e Q q => h H1 e _ fun H2 e2 => by
  obtain ⟨dx, hp⟩ := id T.ob
  exact ⟨p, dx, _, rfl, (e.trans e2) _ _ hp, fld_no d r (by decide +kernel) (by decide +kernel) (by decide +kernel), p, d, r, kvO tx, xs, rfl, T.mono (e.trans e2), fun p2 H3 np e3 hp2 => hb H3 ((e.trans e2).trans e3) _ fun H4 e4 => ⟨1, p2, dn, _, _, by decide, rfl, rfl, e4 _ _ hp2, (((e.trans e2).trans e3).trans e4) _ _ hd, by rw [kvO_len, kvO_len, hl], kv_eq hn hm, q H4 ((e2.trans e3).trans e4)⟩⟩
theorem ev_ktEq {σ : L2.St} {H : Hp} {to tb : TE} {C CR p d r dn : Addr} {tx ty : Tx2} {xs : List V} (h : Ev to σ H (.ref p)) (T : Sto C H p d r (kvO tx) xs) (hb : Ev tb σ H (.ref dn)) (hd : H dn = some (.dK (kvO ty))) (hl : tx.length = ty.length) (hn : (ty.map kO).Nodup) (hm : ∀ x ∈ tx, x ∈ ty) : Ev (tOp (rEqL K) (tMeth C "kept_texts" (sp_Store_kept_texts C CR K) [] E0 to tNil) tb) σ H (.bl true) := fun H1 e Q q => h H1 e _ fun H2 e2 => by
  obtain ⟨dx, hp⟩ := id T.ob
  exact ⟨p, dx, _, rfl, (e.trans e2) _ _ hp, fld_no d r (by decide +kernel) (by decide +kernel) (by decide +kernel), p, d, r, kvO tx, xs, rfl, T.mono (e.trans e2), fun p2 H3 np e3 hp2 => hb H3 ((e.trans e2).trans e3) _ fun H4 e4 => ⟨1, by decide, .inr ⟨p2, dn, _, _, rfl, rfl, e4 _ _ hp2, (((e.trans e2).trans e3).trans e4) _ _ hd, by rw [kvO_len, kvO_len, hl], kv_eq hn hm⟩, q H4 ((e2.trans e3).trans e4)⟩⟩
theorem tc_open {σ : L2.St} {H : Hp} {v : V} {Q : VK} (h : Q v H) : tC v σ H Q := h
theorem tlst_open {ta : TA} {σ : L2.St} {H : Hp} {Q : VK} (h : ta σ H fun vs H1 => vs.length ≤ sizeLine ∧ ∀ p, H1 p = none → Q (.ref p) (L2.upd H1 p (.lst vs))) : tLst ta σ H Q := h
def sp_law (K : PySem.W.Frag) : Sp := sp2 (fun (a : Addr) (_ : List Int) => [.ref a]) (fun a ns H => SqL K H a (ns.map V.int) ∧ ns.length ≤ 63) (fun _ _ => .bl true)
theorem ok_law {f : Addr} {C_Store C_Record C_Rule C_Book C_Job C_StoreReader : Addr} {fd : FuncData} (F : Fun K "law" "law" s_law f fd) (T : Tx mg) (G : Gx K mg) (TC_Store : Tc_Store K C_Store) (TC_Record : Tc_Record K C_Record) (TC_Rule : Tc_Rule K C_Rule) (TC_Book : Tc_Book K C_Book) (TC_Job : Tc_Job K C_Job) (TC_StoreReader : Tc_StoreReader K C_StoreReader) (M_Book : Kn.Mkr P w K mg base 1 "Book" C_Book (sp_Book___init__ C_Book K)) (M_Rule : Kn.Mkr P w K mg base 1 "Rule" C_Rule (sp_Rule___init__ C_Rule K)) (C__law_make_store : Kn.Cl P w K mg base 6 "_law_make_store" (sp__law_make_store C_Store C_Record C_Rule C_Book C_Job G)) (C_make_job : Kn.Cl P w K mg base 4 "make_job" (sp_make_job C_Rule C_Book C_Job K)) (M_Store_kept_texts : Kn.Mt P w K mg base 1 C_Store "kept_texts" (sp_Store_kept_texts C_Store C_Record K)) (M_Store_kept_records : Kn.Mt P w K mg base 1 C_Store "kept_records" (sp_Store_kept_records C_Store C_Record K)) (C__law_string : Kn.Cl P w K mg base 1 "_law_string" (sp__law_string K)) (C_key_text : Kn.Cl P w K mg base 2 "key_text" (sp_key_text K)) (C_save_store : Kn.Cl P w K mg base 4 "save_store" (sp_save_store C_Store C_Record K)) (C_load_store : Kn.Cl P w K mg base 9 "load_store" (sp_load_store C_Store C_StoreReader G)) (M_Store_record_count : Kn.Mt P w K mg base 1 C_Store "record_count" (sp_Store_record_count C_Store C_Record K)) (M_Store_put_content : Kn.Mt P w K mg base 3 C_Store "put_content" (sp_Store_put_content C_Store C_Record K)) (M_Store_add_record : Kn.Mt P w K mg base 4 C_Store "add_record" (sp_Store_add_record C_Store C_Record K)) (M_Record : Kn.Mkr P w K mg base 1 "Record" C_Record (sp_Record___init__ C_Record K)) (C_content_key : Kn.Cl P w K mg base 1 "content_key" (sp_content_key K)) (gStore : mg "Store" = some (.ref C_Store)) (tyS : ∀ {H : Hp} {a dx : Addr} {fs : List (Str × V)}, H a = some (.ins C_Store dx fs) → TyOf K H (.ref a) (.ref C_Store)) (kS : PySem.W.kitOne K (.ref C_Store) (.ref C_Store) = some true) : FnOk P w K mg base CX0 10 f fd ["script"] (sp_law K) := by
  refine F.ok sc_law (fun vs H Q E h => ?_) (fun cdv A outer s H vs Q E hr h => ?_)
  · obtain ⟨a, ns, rfl, _⟩ := h
    rfl
  · obtain ⟨a, ns, rfl, ⟨hS, hl⟩, q⟩ := h
    refine ⟨_, (pss_cons (ps_set (i := 1) sc_law.nd rfl (Or.inl rfl) (Kn.pe_mkr0 M_Book hr (by decide) (by rfl)))
      (pss_cons (ps_expr (pe_bm PySem.F.plainAttrs_list PySem.F.slot_list_append PySem.F.type_list_append mt_append (pe_fld (pv 1) rfl) (pa_cons (Kn.pe_mkr M_Rule hr (by decide) (by rfl) (pa_cons (pe_tup (pa_cons pe_str pa_nil)) (pa_cons (pe_tup (pa_cons pe_str pa_nil)) (pa_cons pe_bl (pa_cons (pe_tup pa_nil) pa_nil))))) pa_nil)))
      (pss_cons (ps_expr (pe_bm PySem.F.plainAttrs_list PySem.F.slot_list_append PySem.F.type_list_append mt_append (pe_fld (pv 1) rfl) (pa_cons (Kn.pe_mkr M_Rule hr (by decide) (by rfl) (pa_cons (pe_tup (pa_cons pe_str (pa_cons pe_str pa_nil))) (pa_cons (pe_tup pa_nil) (pa_cons pe_bl (pa_cons (pe_tup (pa_cons (pe_tup (pa_cons pe_str pa_nil)) pa_nil)) pa_nil))))) pa_nil)))
      (pss_cons (ps_set (i := 2) sc_law.nd rfl (Or.inl rfl) (Kn.pe_cl C__law_make_store hr (by decide) (by rfl) (pa_cons (pv 0) (pa_cons pe_int (pa_cons (pv 1) (pa_cons (pe_lst (pa_cons (Kn.pe_cl C_make_job hr (by decide) (by rfl) (pa_cons (pv 1) (pa_cons pe_int (pa_cons pe_str pa_nil)))) (pa_cons (Kn.pe_cl C_make_job hr (by decide) (by rfl) (pa_cons (pv 1) (pa_cons pe_int (pa_cons pe_str pa_nil)))) pa_nil))) pa_nil))))))
      (pss_cons (ps_set (i := 3) sc_law.nd rfl (Or.inl rfl) (Kn.pe_mt0 M_Store_kept_texts hr (by decide) (pv 2)))
      (pss_cons (ps_set (i := 4) sc_law.nd rfl (Or.inl rfl) (Kn.pe_mt0 M_Store_kept_records hr (by decide) (pv 2)))
      (pss_cons (ps_set (i := 5) sc_law.nd rfl (Or.inl rfl) (pe_lst pa_nil))
      (pss_cons (ps_for PassesOwn.never rfl (pi_list (pe_callB (Kn.cr_sortDI rfl) (by rfl) T.b_sorted (by decide +kernel) (pa_cons (pv 3) pa_nil))) (pg_name (i := 6) sc_law.nd rfl (Or.inl rfl)) (pss_one (ps_expr (pe_bm PySem.F.plainAttrs_list PySem.F.slot_list_append PySem.F.type_list_append mt_append (pv 5) (pa_cons (pe_op Kn.op_addS (pe_op Kn.op_addS (pe_op Kn.op_addS pe_str (Kn.pe_cl C__law_string hr (by decide) (by rfl) (pa_cons (Kn.pe_cl C_key_text hr (by decide) (by rfl) (pa_cons (pv 6) pa_nil)) pa_nil))) pe_str) (Kn.pe_cl C__law_string hr (by decide) (by rfl) (pa_cons (pe_dget (hu_of hr) (pv 3) (pv 6) (fun _ _ => rfl)) pa_nil))) pa_nil)))))
      (pss_cons (ps_for PassesOwn.never rfl (pi_range1 rfl T.b_range (pa_cons (pe_callB Kn.cr_lenSeq (by rfl) T.b_len PySem.boot_len (pa_cons (pv 4) pa_nil)) pa_nil)) (pg_name (i := 7) sc_law.nd rfl (Or.inl rfl)) (pss_one (ps_if (pt_cmpR op_notN1 (pe_ix ix_list (pv 4) (pv 7) (fun _ _ => rfl)) pe_non (nomark _)) (pss_cons (ps_set (i := 8) sc_law.nd rfl (Or.inl rfl) (pe_op Kn.op_addS (pe_op Kn.op_addS (Kn.pe_cl C__law_string hr (by decide) (by rfl) (pa_cons (Kn.pe_cl C_key_text hr (by decide) (by rfl) (pa_cons (pe_ix ix_tup (pe_ix ix_list (pv 4) (pv 7) (fun _ _ => rfl)) pe_int (fun _ _ => rfl)) pa_nil)) pa_nil)) pe_str) (Kn.pe_cl C__law_string hr (by decide) (by rfl) (pa_cons (pe_ix ix_tup (pe_ix ix_list (pv 4) (pv 7) (fun _ _ => rfl)) pe_int (fun _ _ => rfl)) pa_nil))))
      (pss_one (ps_expr (pe_bm PySem.F.plainAttrs_list PySem.F.slot_list_append PySem.F.type_list_append mt_append (pv 5) (pa_cons (pe_op Kn.op_addS (pe_op Kn.op_addS (pe_op Kn.op_addS pe_str (pe_callTy Kn.cr_strInt (by rfl) T.b_str (by decide +kernel) (pa_cons (pv 7) pa_nil))) pe_str) (pv 8)) pa_nil))))) pss_nil)))
      (pss_cons (ps_expr (pe_bm PySem.F.plainAttrs_list PySem.F.slot_list_append PySem.F.type_list_append mt_append (pv 5) (pa_cons (pe_op Kn.op_addS pe_str (pe_callTy Kn.cr_strInt (by rfl) T.b_str (by decide +kernel) (pa_cons (pe_callB Kn.cr_lenSeq (by rfl) T.b_len PySem.boot_len (pa_cons (pv 4) pa_nil)) pa_nil))) pa_nil)))
      (pss_cons (ps_set (i := 9) sc_law.nd rfl (Or.inl rfl) (Kn.pe_cl C_save_store hr (by decide) (by rfl) (pa_cons (pv 2) pa_nil)))
      (pss_cons (ps_if (PW.pt (pw_or (pt_not (pt_val (pe_callB Kn.cr_isi (by rfl) T.b_isinstance (by decide +kernel) (pa_cons (pv 9) (pa_cons (pe_bltn (v := .ty "str") (by rfl) T.b_str (by decide +kernel) rfl) pa_nil))))) (pw_or1 (pt_cmpR op_ne (pv 9) (Kn.pe_joinN (pe_join pe_str (pv 5))) (nomark _))))) (pss_one (ps_ret pe_bl)) pss_nil)
      (pss_cons (ps_set (i := 10) sc_law.nd rfl (Or.inl rfl) (Kn.pe_cl C_load_store hr (by decide) (by rfl) (pa_cons (pv 9) pa_nil)))
      (pss_cons (ps_if (PW.pt (pw_or (pt_not (pt_val (pe_callB Kn.cr_isi (by rfl) T.b_isinstance (by decide +kernel) (pa_cons (pv 10) (pa_cons (pe_glob (v := .ref C_Store) (by rfl) gStore rfl) pa_nil))))) (pw_or (pt_cmpR (Kw.op_neL hr.units) (Kn.pe_mt0 M_Store_kept_texts hr (by decide) (pv 10)) (pv 3) (nomark _)) (pw_or1 (pt_cmpR (op_neD hr.units) (Kn.pe_mt0 M_Store_kept_records hr (by decide) (pv 10)) (pv 4) (nomark _)))))) (pss_one (ps_ret pe_bl)) pss_nil)
      (pss_cons (ps_if (PW.pt (pw_or (pt_cmpR op_ne (Kn.pe_mt0 M_Store_record_count hr (by decide) (pv 10)) (pe_callB Kn.cr_lenSeq (by rfl) T.b_len PySem.boot_len (pa_cons (pv 4) pa_nil)) (nomark _)) (pw_or1 (pt_cmpR op_ne (Kn.pe_cl C_save_store hr (by decide) (by rfl) (pa_cons (pv 10) pa_nil)) (pv 9) (nomark _))))) (pss_one (ps_ret pe_bl)) pss_nil)
      (pss_cons (ps_expr (Kn.pe_mt M_Store_put_content hr (by decide) (pv 10) (pa_cons pe_str pa_nil)))
      (pss_cons (ps_expr (Kn.pe_mt M_Store_add_record hr (by decide) (pv 10) (pa_cons (Kn.pe_mkr M_Record hr (by decide) (by rfl) (pa_cons (pe_tup (pa_cons pe_str pa_nil)) (pa_cons (Kn.pe_cl C_content_key hr (by decide) (by rfl) (pa_cons pe_str pa_nil)) (pa_cons (pe_tup pa_nil) (pa_cons (pe_tup (pa_cons (Kn.pe_cl C_content_key hr (by decide) (by rfl) (pa_cons pe_str pa_nil)) pa_nil)) pa_nil))))) pa_nil)))
      (pss_one (ps_ret (pe_and (pe_cmpR (Kn.op_eqL hr.units) (Kn.pe_mt0 M_Store_kept_texts hr (by decide) (pv 2)) (pv 3) (nomark _)) (pe_and (pe_cmpR (op_eqD hr.units) (Kn.pe_mt0 M_Store_kept_records hr (by decide) (pv 2)) (pv 4) (nomark _)) (pe_one (pe_cmpR op_eq (Kn.pe_cl C_save_store hr (by decide) (by rfl) (pa_cons (pv 2) pa_nil)) (pv 9) (nomark _)))))))))))))))))))))))), ?_⟩
    have no : ∀ {d r : Addr} {m : Str}, ¬ m = "_rows" → ¬ m = "_texts" → ¬ m = "journal" → (fldS d r).lookup m = none := fun h1 h2 h3 => fld_no _ _ h1 h2 h3
    intro bp dxb npb nxb neb
    refine ⟨bp, dxb, rfl, upd_same, fun d0 r0 f0 H1 nd0 nr0 nf0 hb1 hr1 k1 => ⟨rfl, ?_⟩⟩
    have e01 : Ex H H1 := fun b o hb => k1 b o (by rw [upd_ne (ne_of_none hb npb), upd_ne (ne_of_none hb nxb)]; exact hb) (ne_of_none hb npb)
    have nr00 : H r0 = none := upd_none (upd_none nr0)
    refine q_appO (ev_fld (ev_var rfl) hb1 TC_Book.cl TC_Book.na_rules (fb_r d0 r0 f0)) hr1 fun H2 e2 => ?_
    refine tcons_open ?_
    refine tcons_open ?_
    refine (eu_tup (vs := strsV (rOut 0)) (ea_cons (ev_cS (l := [97]) rfl) ea_nil) (by show 1 ≤ 100000; decide)) H2 (Ex.refl _) _ fun o0 H3 no0 e3 ho0 => ?_
    refine tcons_open ?_
    refine (eu_tup (vs := strsV (rInp 0)) (ea_cons (ev_cS (l := [98]) rfl) ea_nil) (by show 1 ≤ 100000; decide)) H3 (Ex.refl _) _ fun i0 H4 ni0 e4 hi0 => ?_
    refine tcons_open (tc_open (tcons_open ?_))
    refine (eu_tup (vs := []) ea_nil (by show 0 ≤ 100000; decide)) H4 (Ex.refl _) _ fun b0 H5 nb0 e5 hb0 => ?_
    intro p0 dx0 np0 nx0 ne0
    refine ⟨p0, dx0, o0, i0, b0, false, rfl, upd_same, fun H6 hp6 k6 => ⟨rfl, ?_⟩⟩
    have e56 : Ex H5 H6 := fun b x hb => k6 b x (by rw [upd_ne (ne_of_none hb np0), upd_ne (ne_of_none hb nx0)]; exact hb) (ne_of_none hb np0)
    have e16 : Ex H1 H6 := (((e2.trans e3).trans e4).trans e5).trans e56
    have R06 : RuO C_Rule H6 p0 0 := ⟨dx0, o0, i0, b0, hp6, ((e4.trans e5).trans e56) _ _ ho0, (e5.trans e56) _ _ hi0, e56 _ _ hb0⟩
    have hr6 := e16 _ _ hr1
    refine ⟨r0, [], .ref p0, rfl, rfl, hr6, sz_lt (by decide), ?_⟩
    have R07 : RuO C_Rule (L2.upd H6 r0 (.lst ([] ++ [.ref p0]))) p0 0 := R06.upd hr6
    have hr7 : L2.upd H6 r0 (.lst ([] ++ [.ref p0])) r0 = some (.lst [.ref p0]) := upd_same
    have hb7 : L2.upd H6 r0 (.lst ([] ++ [.ref p0])) bp = some (.ins C_Book dxb (fldB d0 r0 f0)) := by
      have z := e16 _ _ hb1
      rw [upd_ne (ne_of z hr6 (by intro z; cases z))]
      exact z
    have e07 : Ex H (L2.upd H6 r0 (.lst ([] ++ [.ref p0]))) := fun b o hb => by
      rw [upd_ne (ne_of_none hb nr00)]
      exact e16 _ _ (e01 _ _ hb)
    generalize L2.upd H6 r0 (.lst ([] ++ [.ref p0])) = H7 at R07 hr7 hb7 e07 ⊢
    refine q_appO (ev_fld (ev_var rfl) hb7 TC_Book.cl TC_Book.na_rules (fb_r d0 r0 f0)) hr7 fun H8 e8 => ?_
    refine tcons_open ?_
    refine tcons_open ?_
    refine (eu_tup (vs := strsV (rOut 1)) (ea_cons (ev_cS (l := [99]) rfl) (ea_cons (ev_cS (l := [100]) rfl) ea_nil)) (by show 2 ≤ 100000; decide)) H8 (Ex.refl _) _ fun o1 H9 no1 e9 ho1 => ?_
    refine tcons_open ?_
    refine (eu_tup (vs := strsV (rInp 1)) ea_nil (by show 0 ≤ 100000; decide)) H9 (Ex.refl _) _ fun i1 H10 ni1 e10 hi1 => ?_
    refine tcons_open (tc_open (tcons_open ?_))
    refine ttup_open ?_
    refine tcons_open ?_
    refine (eu_tup (vs := [.str (S (lit "fail"))]) (ea_cons (ev_cS (l := lit "fail") rfl) ea_nil) (by show 1 ≤ 100000; decide)) H10 (Ex.refl _) _ fun t1 H11 nt1 e11 ht1 => ?_
    refine ⟨(by show 1 ≤ sizeLine; decide), fun b1 nb1 => ?_⟩
    intro p1 dx1 np1 nx1 ne1
    refine ⟨p1, dx1, o1, i1, b1, true, rfl, upd_same, fun H13 hp13 k13 => ⟨rfl, ?_⟩⟩
    have e12 : Ex H11 (L2.upd H11 b1 (.tup [.ref t1])) := Ex.new nb1
    have e1213 : Ex (L2.upd H11 b1 (.tup [.ref t1])) H13 := fun b x hb => k13 b x (by rw [upd_ne (ne_of_none hb np1), upd_ne (ne_of_none hb nx1)]; exact hb) (ne_of_none hb np1)
    have e1113 := e12.trans e1213
    have e713 : Ex H7 H13 := (((e8.trans e9).trans e10).trans e11).trans e1113
    have R113 : RuO C_Rule H13 p1 1 := ⟨dx1, o1, i1, b1, hp13, ((e10.trans e11).trans e1113) _ _ ho1, (e11.trans e1113) _ _ hi1, t1, e1213 _ _ upd_same, e1113 _ _ ht1⟩
    have hr13 := e713 _ _ hr7
    refine ⟨r0, [.ref p0], .ref p1, rfl, rfl, hr13, sz_lt (by show 1 < 100000; decide), ?_⟩
    have B14 : BkO C_Book C_Rule (L2.upd H13 r0 (.lst ([.ref p0] ++ [.ref p1]))) bp := ⟨dxb, d0, r0, f0, p0, p1, by
      have z := e713 _ _ hb7
      rw [upd_ne (ne_of z hr13 (by intro z; cases z))]
      exact z, upd_same, (R07.mono e713).upd hr13, R113.upd hr13⟩
    have e014 : Ex H (L2.upd H13 r0 (.lst ([.ref p0] ++ [.ref p1]))) := fun b o hb => by
      rw [upd_ne (ne_of_none hb nr00)]
      exact e713 _ _ (e07 _ _ hb)
    generalize L2.upd H13 r0 (.lst ([.ref p0] ++ [.ref p1])) = H14 at B14 e014 ⊢
    refine q_asgOf ?_
    refine tcons_open ⟨_, rfl, ?_⟩
    refine tcons_open (tc_open ?_)
    refine tcons_open ⟨_, rfl, ?_⟩
    refine tcons_open ?_
    refine tlst_open ?_
    refine tcons_open ?_
    refine (ea_cons (ev_var rfl) (ea_cons (ev_c (v := .int ((0 : Nat) : Int))) (ea_cons (ev_cS (l := []) rfl) ea_nil))) H14 (Ex.refl _) _ fun H15 e15 => ⟨bp, 0, rfl, by decide, B14.mono e15, fun j0 H16 nj0 e16' J0 => ?_⟩
    refine tcons_open ?_
    refine (ea_cons (ev_var rfl) (ea_cons (ev_c (v := .int ((1 : Nat) : Int))) (ea_cons (ev_cS (l := []) rfl) ea_nil))) H16 (Ex.refl _) _ fun H17 e17 => ⟨bp, 1, rfl, by decide, ((B14.mono e15).mono e16').mono e17, fun j1 H18 nj1 e18 J1 => ?_⟩
    refine ⟨(by show 2 ≤ sizeLine; decide), fun jl njl => ?_⟩
    have e1418 := ((e15.trans e16').trans e17).trans e18
    have e19 : Ex H18 (L2.upd H18 jl (.lst [.ref j0, .ref j1])) := Ex.new njl
    refine ⟨a, bp, jl, j0, j1, ns, rfl, ex_l ((e014.trans e1418).trans e19) hS, B14.mono (e1418.trans e19), upd_same, J0.mono ((e17.trans e18).trans e19), J1.mono e19, fun p d r tx xs ys H20 np nd nr e20 T20 hx hy hP => ?_⟩
    try unfold gName
    dsimp only
    have e020 : Ex H H20 := ((e014.trans e1418).trans e19).trans e20
    obtain ⟨dx, hp20⟩ := id T20.ob
    refine ⟨_, rfl, p, dx, _, rfl, hp20, no (by decide +kernel) (by decide +kernel) (by decide +kernel), p, d, r, kvO tx, xs, rfl, T20, fun dn H21 ndn e21 hdn => ?_⟩
    try unfold gName
    dsimp only
    have T21 := T20.mono e21
    have hp21 := e21 _ _ hp20
    refine q_asgL (xs := xs) (el_meth' (ev_var rfl) hp21 (no (by decide +kernel) (by decide +kernel) (by decide +kernel)) ea_nil fun H22 e22 Q q E => ⟨p, d, r, kvO tx, xs, rfl, T21.mono e22, q⟩) fun rl H22 nrl e22 hrl => ?_
    refine q_asgL (xs := []) (el_lst ea_nil (by decide)) fun ll H23 nll e23 hll => ?_
    have e020b := e020.trans (e21.trans e22)
    have T22 := T21.mono e22
    have hdn22 := e22 _ _ hdn
    have hP22 := Paired.mapP hP fun _ _ z => RwO.mono z (e21.trans e22)
    have hxl := pair_len hP
    have hxz := hx.z
    have hyz := hy.z
    have kp : ∀ {H' H'' : Hp} {zs : List V}, Ex H22 H' → Ex H' H'' → Ex H22 (L2.upd H'' ll (.lst zs)) := fun e1 e2 b o hb => by
      rw [upd_ne (ne_of_none hb nll)]
      exact e2 _ _ (e1 _ _ hb)
    have lwE : ∀ {σ : L2.St} {H' : Hp} {te : TE} {l : List Nat}, TxK l → Ev te σ H' (.str (S l)) → Ev (tCall (sp__law_string K) [] E0 (tCons te tNil)) σ H' (.str (S (wr l))) := fun ht h => ev_c1 (a := _) (ea_cons h ea_nil) fun _ _ => (by show _ ≤ 9000; have := ht.1; omega)
    -- the contents
    refine q_forFirst ?_
    refine ⟨_, rfl, dn, kvO tx, tx.map kO, rfl, .inl (e23 _ _ hdn22), kvO_keys tx, by rw [List.length_map]; omega, fun zs sl hperm hs nsl => ?_⟩
    have hzs : zs = (srt2 tx).map kO := ints_uniq hs (srt2_pw tx) (hperm.trans ((srt2_perm tx).map kO).symm)
    subst hzs
    have nsll : sl ≠ ll := fun z => by rw [z, hll] at nsl; cases nsl
    refine q_forLn (ev_c (v := .ref sl)) (sq_of upd_same) (fun n σ' H' => ∃ y6, σ' = [some (.ref a), some (.ref bp), some (.ref p), some (.ref dn), some (.ref rl), some (.ref ll), y6, none, none, none, none] ∧ Ex H22 H' ∧ H' sl = some (.lst (((srt2 tx).map kO).map V.int)) ∧ H' ll = some (.lst (((srt2 tx).take n).map fun x => V.str (S (cLn x.1 x.2))))) (fun H24 e24 => ⟨_, rfl, (e23.trans (Ex.new nsl)).trans e24, e24 _ _ upd_same, e24 _ _ (by rw [upd_ne nsll.symm]; exact hll)⟩) (fun _ _ _ _ ⟨_, _, _, h, _⟩ => sq_of h) ?_ ?_
    · rintro n v σ' H' hv ⟨y6, rfl, e', hsl', hll'⟩
      rw [List.map_map, List.getElem?_map] at hv
      obtain ⟨x, hxn, rfl⟩ := Option.map_eq_some_iff.mp hv
      have hxm : x ∈ tx := (srt2_perm tx).mem_iff.mp (List.mem_of_getElem? hxn)
      have ht := hx.a x hxm
      have w1 := ht.1.wr
      have w2 := ht.2.wr
      refine s_app (v := .str (S (cLn x.1 x.2))) hll' (ev_var rfl) (ev_is (ev_op (ev_op (ev_op (ev_cS (l := lit "content ") rfl) (lwE ht.1 (ev_c1 (a := x.1) (ea_cons (ev_var rfl) ea_nil) fun _ _ => ht.1)) (rv_addS (by show 8 + _ ≤ 100000; omega))) (ev_cS (l := [32]) rfl) (rv_addS (by rw [List.length_append]; show 8 + _ + 1 ≤ 100000; omega))) (lwE ht.2 (ev_dgetI (ev_var rfl) (ev_var rfl) (e' _ _ hdn22) (valV_kvO hx.n x hxm))) (rv_addS (by rw [List.length_append, List.length_append]; show 8 + _ + 1 + _ ≤ 100000; omega))) (congrArg (fun z => V.str (S z)) (cLn_eq x.1 x.2))) (by rw [List.length_map, List.length_take, srt2_len]; omega) fun H25 e25 => ⟨_, rfl, kp e' e25, by rw [upd_ne nsll]; exact e25 _ _ hsl', ?_⟩
      rw [upd_same, take_snoc hxn, List.map_append]
      rfl
    rintro σ' H26 ⟨y6, rfl, e26, _, hll26⟩
    have hll26 : H26 ll = some (.lst (((srt2 tx).map fun x => cLn x.1 x.2).map fun l => V.str (S l))) := by
      rw [hll26, List.length_map, List.length_map, List.take_length, List.map_map]
      rfl
    -- the rows
    refine q_forR1 (n := (xs.length : Int)) (ea_cons (ev_len (ev_var rfl) (sq_of (e26 _ _ hrl))) ea_nil) ⟨by omega, by omega⟩ (fun n σ' H' => ∃ y7 y8, σ' = [some (.ref a), some (.ref bp), some (.ref p), some (.ref dn), some (.ref rl), some (.ref ll), y6, y7, y8, none, none] ∧ Ex H22 H' ∧ H' ll = some (.lst (((srt2 tx).map (fun x : List Nat × List Nat => cLn x.1 x.2) ++ rowL (ys.take n) 0).map fun l => V.str (S l)))) (fun H27 e27 => ⟨_, _, rfl, e26.trans e27, ?_⟩) ?_ ?_
    · show H27 ll = some (.lst (((srt2 tx).map (fun x : List Nat × List Nat => cLn x.1 x.2) ++ []).map fun l => V.str (S l)))
      rw [List.append_nil]
      exact e27 _ _ hll26
    · rintro n σ' H' hn ⟨y7, y8, rfl, e', hll'⟩
      have hnx : n < xs.length := by omega
      have hxn := List.getElem?_eq_getElem hnx
      obtain ⟨y, hyn, hR⟩ := pair_at hP22 n _ hxn
      have hR' := hR.mono e'
      have htk : ys.take (n + 1) = ys.take n ++ [y] := by
        rw [List.take_add_one, hyn]
        rfl
      have rwE : ∀ {σ : L2.St} {H'' : Hp}, σ[4]? = some (some (.ref rl)) → σ[7]? = some (some (.int (n : Int))) → Ex H' H'' → Ev (tOp (rIxL K) (tVar 4) (tVar 7)) σ H'' xs[n] := fun h4 h7 e => ev_op (ev_var h4) (ev_var h7) (rv_ixL (sq_of (e _ _ (e' _ _ hrl))) (atI_nat hxn))
      match y, hyn, hR' with
      | none, hyn, hR' =>
        refine s_when (b := false) (et_is (et_notN (rwE rfl rfl (Ex.refl _))) (by rw [show xs[n] = V.non from hR']; rfl)) (fun z => nomatch z) fun _ H6 e6 => ⟨_, _, rfl, e'.trans e6, ?_⟩
        rw [htk, rowL_snoc]
        show H6 ll = some (.lst (((srt2 tx).map (fun x : List Nat × List Nat => cLn x.1 x.2) ++ (rowL (ys.take n) 0 ++ [])).map fun l => V.str (S l)))
        rw [List.append_nil]
        exact e6 _ _ hll'
      | some (l, m), hyn, hR' =>
        obtain ⟨b, hb, hbt⟩ := hR'
        have ht := hy.a l m (List.mem_of_getElem? hyn)
        have w1 := ht.1.wr
        have w2 := ht.2.wr
        have n64 : n < 64 := by omega
        have w3 := (num_ok n n64).1
        refine s_when (b := true) (et_is (et_notN (rwE rfl rfl (Ex.refl _))) (by rw [hb]; rfl)) (fun _ H6 e6 => ?_) (fun z => nomatch z)
        have hbt6 := e6 _ _ hbt
        refine q_asg (v := .str (S ((wr l ++ [32]) ++ wr m))) (ev_op (ev_op (lwE ht.1 (ev_c1 (a := l) (ea_cons (ev_op (ev_is (rwE rfl rfl e6) hb) ev_c (rv_ixT (st_of hbt6) (atI_nat (j := 0) rfl))) ea_nil) fun _ _ => ht.1)) (ev_cS (l := [32]) rfl) (rv_addS (by show _ + 1 ≤ 100000; omega))) (lwE ht.2 (ev_op (ev_is (rwE rfl rfl e6) hb) ev_c (rv_ixT (st_of hbt6) (atI_nat (j := 1) rfl)))) (rv_addS (by rw [List.length_append]; show _ + 1 + _ ≤ 100000; omega))) fun H7 e7 => ?_
        refine s_app (v := .str (S (rLn n l m))) (e7 _ _ (e6 _ _ hll')) (ev_var rfl) (ev_is (ev_op (ev_op (ev_op (ev_cS (l := lit "record ") rfl) (ev_strInt (ev_var rfl) (by omega)) (rv_addS (by show 7 + _ ≤ 100000; omega))) (ev_cS (l := [32]) rfl) (rv_addS (by rw [List.length_append]; show 7 + _ + 1 ≤ 100000; omega))) (ev_var rfl) (rv_addS (by rw [List.length_append, List.length_append, List.length_append, List.length_append]; show 7 + _ + 1 + (_ + 1 + _) ≤ 100000; omega))) (congrArg (fun z => V.str (S z)) (rLn_eq n l m))) (by
          have z := rowL_len (ys.take n) 0
          rw [List.length_take] at z
          rw [List.length_map, List.length_append, List.length_map, srt2_len]
          omega) fun H8 e8 => ⟨_, _, rfl, kp e' ((e6.trans e7).trans e8), ?_⟩
        rw [htk, rowL_snoc, upd_same]
        refine congrArg (fun z => some (HO.lst z)) ?_
        rw [List.map_append, List.map_append, List.map_append, List.append_assoc]
        refine congrArg (_ ++ ·) (congrArg (_ ++ ·) ?_)
        rw [List.length_take, Nat.min_eq_left (by omega), Nat.zero_add]
        rfl
    rintro σ' H28 ⟨y7, y8, rfl, e28, hll28⟩
    have hall : ys.take xs.length = ys := by rw [hxl]; exact List.take_length
    have hll28 : H28 ll = some (.lst (((srt2 tx).map (fun x : List Nat × List Nat => cLn x.1 x.2) ++ rowL ys 0).map fun l => V.str (S l))) := by rw [← hall]; exact hll28
    have y64 : ys.length < 64 := by omega
    have w3 := (num_ok ys.length y64).1
    have rll := rowL_len ys 0
    refine q_app (v := .str (S (nLn ys.length))) hll28 (ev_var rfl) (ev_is (ev_op (ev_cS (l := lit "records ") rfl) (ev_strInt (n := ys.length) (ev_is (ev_len (ev_var rfl) (sq_of (e28 _ _ hrl))) (by rw [hxl])) (by omega)) (rv_addS (by show 8 + _ ≤ 100000; omega))) (congrArg (fun z => V.str (S z)) (nLn_eq ys.length))) (by rw [List.length_map, List.length_append, List.length_map, srt2_len]; omega) fun H29 e29 => ?_
    have e30 : Ex H22 (L2.upd H29 ll (.lst ((((srt2 tx).map (fun x : List Nat × List Nat => cLn x.1 x.2) ++ rowL ys 0).map fun l => V.str (S l)) ++ [.str (S (nLn ys.length))]))) := kp e28 e29
    have hll30 : L2.upd H29 ll (.lst ((((srt2 tx).map (fun x : List Nat × List Nat => cLn x.1 x.2) ++ rowL ys 0).map fun l => V.str (S l)) ++ [.str (S (nLn ys.length))])) ll = some (.lst ((svL tx ys).map fun l => V.str (S l))) := by
      rw [upd_same]
      unfold svL
      conv => rhs; rw [List.map_append]
      rfl
    generalize L2.upd H29 ll (.lst ((((srt2 tx).map (fun x : List Nat × List Nat => cLn x.1 x.2) ++ rowL ys 0).map fun l => V.str (S l)) ++ [.str (S (nLn ys.length))])) = H30 at e30 hll30 ⊢
    have svE : ∀ {σ : L2.St} {H' : Hp}, σ[2]? = some (some (.ref p)) → Ex H22 H' → Ev (tCall (sp_save_store C_Store C_Record K) [] E0 (tCons (tVar 2) tNil)) σ H' (.str (S (svT tx ys))) := fun h e => ev_call' (ea_cons (ev_var h) ea_nil) fun H'' e'' Q q E => ⟨p, d, r, tx, xs, ys, rfl, T22.mono (e.trans e''), hx, hy, Paired.mapP hP22 fun _ _ z => RwO.mono z (e.trans e''), q⟩
    refine q_asg (v := .str (S (svT tx ys))) (svE rfl e30) fun H31 e31 => ?_
    have e31' := e30.trans e31
    refine q_when (b := false) (et_is (et_or (a := false) (b := false) (et_is (et_not (et_B (ev_isiS (ev_var rfl)))) rfl) fun _ => et_is (et_test (ev_op (ev_var rfl) (ev_joinV (s := [10]) (ys := svL tx ys) (ev_cS rfl) (ev_var rfl) (sq_of (e31 _ _ hll30)) (svL_sum hx hy)) (rv_ne rfl))) (ne_same _)) rfl) (fun z => nomatch z) fun _ H32 e32 => ?_
    have e32' := e31'.trans e32
    refine q_asgC (ea_cons (ev_var rfl) ea_nil) fun H33 e33 => ⟨tx, ys, rfl, hx, hy, fun p2 d2 r2 xs2 H34 np2 nd2 nr2 T34 hP34 e34 => ?_⟩
    try unfold gName
    dsimp only
    have e34' := (e32'.trans e33).trans e34
    obtain ⟨dx2, hp34⟩ := id T34.ob
    have hdn34 := e34' _ _ hdn22
    have hrl34 := e34' _ _ hrl
    have hxl2 := pair_len hP34
    have hDt := dta_rows hP22
    have hSh := sh_rows hy.a
    have hEq : PyData.eqv (.list (ys.map rowD)) (.list (ys.map rowD)) = true := by
      rw [SeqAt.eqv_refl]
      exact can_rows hy.a
    have evrl : ∀ {σ : L2.St} {H' : Hp}, σ[4]? = some (some (.ref rl)) → Ex H22 H' → EvD (tVar 4) σ H' (.list (ys.map rowD)) := fun h e => evd_of (ev_var h) (.lst (e _ _ hrl) (hDt.mono e))
    refine q_when (b := false) (et_is (et_or (a := false) (b := false) (et_is (et_not (et_B (ev_isOwn (ev_var rfl) hp34 tyS kS))) rfl) fun _ => et_is (et_or (a := false) (b := false) (et_test (ev_ktNe (ev_var rfl) T34 (ev_var rfl) hdn34 (srt2_len tx) hx.n fun x hx' => (srt2_perm tx).mem_iff.mp hx')) fun _ => et_is (et_test (ev_neD (evd_L (el_meth' (ev_var rfl) hp34 (no (by decide +kernel) (by decide +kernel) (by decide +kernel)) ea_nil fun H35 e35 Q q E => ⟨p2, d2, r2, _, xs2, rfl, T34.mono e35, q⟩) (dta_rows hP34)) (evrl rfl e34') hSh hSh)) (by rw [hEq]; rfl)) rfl) rfl) (fun z => nomatch z) fun _ H35 e35 => ?_
    have T35 := T34.mono e35
    have e35' := e34'.trans e35
    have hp35 := e35 _ _ hp34
    refine q_when (b := false) (et_is (et_or (a := false) (b := false) (et_is (et_test (ev_op (ev_is (ev_meth (z := .int (xs2.length : Int)) (ev_var rfl) hp35 (no (by decide +kernel) (by decide +kernel) (by decide +kernel)) ea_nil fun H36 e36 Q q E => ⟨p2, d2, r2, _, xs2, rfl, T35.mono e36, q⟩) (by rw [hxl2, ← hxl])) (ev_len (ev_var rfl) (sq_of (e35 _ _ hrl34))) (rv_ne rfl))) (ne_same _)) fun _ => et_is (et_test (ev_op (ev_is (ev_call' (ea_cons (ev_var rfl) ea_nil) fun H36 e36 Q q E => ⟨p2, d2, r2, srt2 tx, xs2, ys, rfl, T35.mono e36, hx.srt, hy, Paired.mapP hP34 fun _ _ z => RwO.mono z (e35.trans e36), q⟩) (by rw [svT_srt])) (ev_var rfl) (rv_ne rfl))) (ne_same _)) rfl) (fun z => nomatch z) fun _ H36 e36 => ?_
    have T36 := T35.mono e36
    have e36' := e35'.trans e36
    have hp36 := e36 _ _ hp35
    have nd2' : H22 d2 = none := fresh_back (e32'.trans e33) nd2
    have nr2' : H22 r2 = none := fresh_back (e32'.trans e33) nr2
    refine ⟨_, rfl, p2, dx2, _, rfl, hp36, no (by decide +kernel) (by decide +kernel) (by decide +kernel), ?_⟩
    refine ea_cons (ev_cS (l := lit "other") rfl) ea_nil H36 (Ex.refl _) _ fun H37 e37 => ⟨p2, d2, r2, _, xs2, lit "other", rfl, T36.mono e37, (by unfold Txl; decide +kernel), by rw [kvO_len, srt2_len]; omega, fun H38 T38 k38 => ?_⟩
    have e38' : Ex H22 H38 := fun b o hb => k38 b o ((e36'.trans e37) _ _ hb) (ne_of_none hb nd2')
    obtain ⟨dx38, hp38⟩ := id T38.ob
    refine ⟨_, rfl, p2, dx38, _, rfl, hp38, no (by decide +kernel) (by decide +kernel) (by decide +kernel), ?_⟩
    refine tcons_open ?_
    refine tcons_open ?_
    refine (eu_tup (vs := [.str (S (lit "z"))]) (ea_cons (ev_cS (l := lit "z") rfl) ea_nil) (by show 1 ≤ 100000; decide)) H38 (Ex.refl _) _ fun t39 H39 n39 e39 h39 => ?_
    refine tcons_open ?_
    refine (ev_c1 (a := lit "z") (ea_cons (ev_cS (l := lit "z") rfl) ea_nil) fun _ _ => (by unfold Txl; decide +kernel)) H39 (Ex.refl _) _ fun H40 e40 => ?_
    refine tcons_open ?_
    refine (eu_tup (vs := []) ea_nil (by show 0 ≤ 100000; decide)) H40 (Ex.refl _) _ fun t41 H41 n41 e41 h41 => ?_
    refine tcons_open ?_
    refine (eu_tup (vs := [.int ((key [] : Nat) : Int)]) (ea_cons (ev_c1 (A := fun l : List Nat => [.str (S l)]) (a := []) (ea_cons (ev_cS (l := []) rfl) ea_nil) fun _ _ => (by show Txl []; unfold Txl; decide +kernel)) ea_nil) (by show 1 ≤ 100000; decide)) H41 (Ex.refl _) _ fun t42 H42 n42 e42 h42 => ?_
    intro rp dxr npr nxr ner
    refine ⟨rp, dxr, t39, t41, t42, key (lit "z"), rfl, upd_same, fun H43 h43 k43 => ⟨rfl, ?_⟩⟩
    have e4243 : Ex H42 H43 := fun b' x hb => k43 b' x (by rw [upd_ne (ne_of_none hb npr), upd_ne (ne_of_none hb nxr)]; exact hb) (ne_of_none hb npr)
    have e3843 : Ex H38 H43 := (((e39.trans e40).trans e41).trans e42).trans e4243
    have RO : RcO C_Record H43 rp rcZ := ⟨dxr, t39, t41, t42, [], h43, (((e40.trans e41).trans e42).trans e4243) _ _ h39, (e42.trans e4243) _ _ h41, .nil, e4243 _ _ h42⟩
    refine ⟨p2, d2, r2, rp, rcZ, _, xs2, rfl, T38.mono e3843, RO, rcZ_ok.1, rcZ_ok.2, by omega, fun y H44 T44 k44 => ?_⟩
    have e44' : Ex H22 H44 := fun b o hb => k44 b o (e3843 _ _ (e38' _ _ hb)) (ne_of_none hb nr2')
    have hp44 := (e21.trans (e22.trans e44')) _ _ hp20
    have T44' := T22.mono e44'
    refine s_ret (v := .bl true) (ev_is (ev_andV (ev_ktEq (ev_var rfl) T44' (ev_var rfl) (e44' _ _ hdn22) rfl hx.n fun x hx' => hx') fun _ => ev_andV (ev_eqD (evd_L (el_meth' (ev_var rfl) hp44 (no (by decide +kernel) (by decide +kernel) (by decide +kernel)) ea_nil fun H45 e45 Q q E => ⟨p, d, r, _, xs, rfl, T44'.mono e45, q⟩) (hDt.mono e44')) (evrl rfl e44') hSh hSh) fun _ => ev_op (svE rfl e44') (ev_var rfl) (rv_eq rfl)) ?_) fun H45 e45 => q H45 ((e020b.trans e44').trans e45)
    rw [hEq, decide_eq_true rfl]
    rfl
end

theorem all_mk {l : PySem.W.OpenLaw} {w : World} {K : PySem.W.Frag} {h : Heap} {mg : Str → Option Value} {fa : Addr} (X : K.In h) (G : h.Ns mainGlobals mg) (hfa : mg "law" = some (.ref fa))
    {f0 f1 f2 f3 f4 f5 f6 f7 f8 f9 f10 f11 f12 f13 f14 f15 f16 f17 f18 f19 f20 f21 f22 f23 f24 f25 f26 f27 f28 f29 f30 f31 f32 f33 f34 f35 f36 f37 f38 f39 f40 f41 f42 f43 f44 f45 f46 f47 f48 f49 f50 f51 f52 f53 f54 f55 f56 f57 f58 f59 f60 f61 f62 f63 f64 : Addr} {od0 od1 od2 od3 od4 od5 od6 od7 od8 od9 od10 od11 od12 od13 od14 od15 od16 od17 od18 od19 od20 od21 od22 od23 od24 od25 od26 od27 od28 od29 od30 od31 od32 od33 od34 od35 od36 od37 od38 od39 od40 od41 od42 od43 od44 od45 od46 od47 od48 od49 od50 od51 od52 od53 od54 od55 od56 od57 od58 od59 od60 od61 od62 od63 od64 an0 an1 an2 an3 an4 an5 an6 an7 an8 an9 an10 an11 an12 an13 an14 an15 an16 an17 an18 an19 an20 an21 an22 an23 an24 an25 an26 an27 an28 an29 an30 an31 an32 an33 an34 an35 an36 an37 an38 an39 an40 an41 an42 an43 an44 an45 an46 an47 an48 an49 an50 an51 an52 an53 an54 an55 an56 an57 an58 an59 an60 an61 an62 an63 an64 : Option Addr} {sl0 sl1 sl2 sl3 sl4 sl5 sl6 sl7 sl8 sl9 sl10 sl11 sl12 sl13 sl14 sl15 sl16 sl17 sl18 sl19 sl20 sl21 sl22 sl23 sl24 sl25 sl26 sl27 sl28 sl29 sl30 sl31 sl32 sl33 sl34 sl35 sl36 sl37 sl38 sl39 sl40 sl41 sl42 sl43 sl44 sl45 sl46 sl47 sl48 sl49 sl50 sl51 sl52 sl53 sl54 sl55 sl56 sl57 sl58 sl59 sl60 sl61 sl62 sl63 sl64 : Array (Option Value)} {oc0 oc1 oc2 oc3 oc4 oc5 oc6 oc7 oc8 oc9 oc10 oc11 oc12 oc13 oc14 oc15 oc16 oc17 oc18 oc19 oc20 oc21 oc22 oc23 oc24 oc25 oc26 oc27 oc28 oc29 oc30 oc31 oc32 oc33 oc34 oc35 oc36 oc37 oc38 oc39 oc40 oc41 oc42 oc43 oc44 oc45 oc46 oc47 oc48 oc49 oc50 oc51 oc52 oc53 oc54 oc55 oc56 oc57 oc58 oc59 oc60 oc61 oc62 oc63 oc64 kV0 kV1 kV2 kV3 kV4 kV5 kV6 kV7 kV8 kV9 kV10 kV11 kV12 kV13 kV14 kV15 kV16 kV17 kV18 kV19 kV20 kV21 kV22 kV23 kV24 kV25 kV26 kV27 kV28 kV29 kV30 kV31 kV32 kV33 kV34 kV35 kV36 kV37 kV38 kV39 kV40 kV41 kV42 kV43 kV44 kV45 kV46 kV47 kV48 kV49 kV50 kV51 kV52 kV53 kV54 kV55 kV56 kV57 kV58 kV59 kV60 kV61 kV62 kV63 kV64 dc0 dc1 dc2 dc3 dc4 dc5 dc6 dc7 dc8 dc9 dc10 dc11 dc12 dc13 dc14 dc15 dc16 dc17 dc18 dc19 dc20 dc21 dc22 dc23 dc24 dc25 dc26 dc27 dc28 dc29 dc30 dc31 dc32 dc33 dc34 dc35 dc36 dc37 dc38 dc39 dc40 dc41 dc42 dc43 dc44 dc45 dc46 dc47 dc48 dc49 dc50 dc51 dc52 dc53 dc54 dc55 dc56 dc57 dc58 dc59 dc60 dc61 dc62 dc63 dc64 pm0 pm1 pm2 pm3 pm4 pm5 pm6 pm7 pm8 pm9 pm10 pm11 pm12 pm13 pm14 pm15 pm16 pm17 pm18 pm19 pm20 pm21 pm22 pm23 pm24 pm25 pm26 pm27 pm28 pm29 pm30 pm31 pm32 pm33 pm34 pm35 pm36 pm37 pm38 pm39 pm40 pm41 pm42 pm43 pm44 pm45 pm46 pm47 pm48 pm49 pm50 pm51 pm52 pm53 pm54 pm55 pm56 pm57 pm58 pm59 pm60 pm61 pm62 pm63 pm64 cd0 cd1 cd2 cd3 cd4 cd5 cd6 cd7 cd8 cd9 cd10 cd11 cd12 cd13 cd14 cd15 cd16 cd17 cd18 cd19 cd20 cd21 cd22 cd23 cd24 cd25 cd26 cd27 cd28 cd29 cd30 cd31 cd32 cd33 cd34 cd35 cd36 cd37 cd38 cd39 cd40 cd41 cd42 cd43 cd44 cd45 cd46 cd47 cd48 cd49 cd50 cd51 cd52 cd53 cd54 cd55 cd56 cd57 cd58 cd59 cd60 cd61 cd62 cd63 cd64 ct0 ct1 ct2 ct3 ct4 ct5 ct6 ct7 ct8 ct9 ct10 ct11 ct12 ct13 ct14 ct15 ct16 ct17 ct18 ct19 ct20 ct21 ct22 ct23 ct24 ct25 ct26 ct27 ct28 ct29 ct30 ct31 ct32 ct33 ct34 ct35 ct36 ct37 ct38 ct39 ct40 ct41 ct42 ct43 ct44 ct45 ct46 ct47 ct48 ct49 ct50 ct51 ct52 ct53 ct54 ct55 ct56 ct57 ct58 ct59 ct60 ct61 ct62 ct63 ct64 : Value}
    {C_Store : Addr}
    {C_Record : Addr}
    {C_Rule : Addr}
    {C_Book : Addr}
    {C_Job : Addr}
    {C_StoreReader : Addr}
    (aC_Store : PySem.W.nsIn K mainGlobals "Store" = some (some (.ref C_Store)))
    (pg_Store : PySem.W.plainGet K C_Store Str.empty = true)
    (hdi_Store : PySem.W.hasDictIn K C_Store = true)
    (po_Store : PySem.W.plainOver K C_Store = true)
    (sa_Store : PySem.W.findIn K (.ref C_Store) "__setattr__" = some (some (.builtin "object.__setattr__")))
    (mk_Store : PySem.W.makesIn K C_Store = true)
    (kc_Store : PySem.W.keepIn K (.ref C_Store) = true)
    (na_journal_Store : PySem.W.findIn K (.ref C_Store) "journal" = some none)
    (na__texts_Store : PySem.W.findIn K (.ref C_Store) "_texts" = some none)
    (na__rows_Store : PySem.W.findIn K (.ref C_Store) "_rows" = some none)
    (aC_Record : PySem.W.nsIn K mainGlobals "Record" = some (some (.ref C_Record)))
    (pg_Record : PySem.W.plainGet K C_Record Str.empty = true)
    (hdi_Record : PySem.W.hasDictIn K C_Record = true)
    (po_Record : PySem.W.plainOver K C_Record = true)
    (sa_Record : PySem.W.findIn K (.ref C_Record) "__setattr__" = some (some (.builtin "object.__setattr__")))
    (mk_Record : PySem.W.makesIn K C_Record = true)
    (kc_Record : PySem.W.keepIn K (.ref C_Record) = true)
    (na_outputs_Record : PySem.W.findIn K (.ref C_Record) "outputs" = some none)
    (na_rule_key_Record : PySem.W.findIn K (.ref C_Record) "rule_key" = some none)
    (na_needs_Record : PySem.W.findIn K (.ref C_Record) "needs" = some none)
    (na_results_Record : PySem.W.findIn K (.ref C_Record) "results" = some none)
    (aC_Rule : PySem.W.nsIn K mainGlobals "Rule" = some (some (.ref C_Rule)))
    (pg_Rule : PySem.W.plainGet K C_Rule Str.empty = true)
    (hdi_Rule : PySem.W.hasDictIn K C_Rule = true)
    (po_Rule : PySem.W.plainOver K C_Rule = true)
    (sa_Rule : PySem.W.findIn K (.ref C_Rule) "__setattr__" = some (some (.builtin "object.__setattr__")))
    (mk_Rule : PySem.W.makesIn K C_Rule = true)
    (kc_Rule : PySem.W.keepIn K (.ref C_Rule) = true)
    (na_outputs_Rule : PySem.W.findIn K (.ref C_Rule) "outputs" = some none)
    (na_inputs_Rule : PySem.W.findIn K (.ref C_Rule) "inputs" = some none)
    (na_sealed_Rule : PySem.W.findIn K (.ref C_Rule) "sealed" = some none)
    (na_body_Rule : PySem.W.findIn K (.ref C_Rule) "body" = some none)
    (aC_Book : PySem.W.nsIn K mainGlobals "Book" = some (some (.ref C_Book)))
    (pg_Book : PySem.W.plainGet K C_Book Str.empty = true)
    (hdi_Book : PySem.W.hasDictIn K C_Book = true)
    (po_Book : PySem.W.plainOver K C_Book = true)
    (sa_Book : PySem.W.findIn K (.ref C_Book) "__setattr__" = some (some (.builtin "object.__setattr__")))
    (mk_Book : PySem.W.makesIn K C_Book = true)
    (kc_Book : PySem.W.keepIn K (.ref C_Book) = true)
    (na_settings_Book : PySem.W.findIn K (.ref C_Book) "settings" = some none)
    (na_rules_Book : PySem.W.findIn K (.ref C_Book) "rules" = some none)
    (na_files_Book : PySem.W.findIn K (.ref C_Book) "files" = some none)
    (aC_Job : PySem.W.nsIn K mainGlobals "Job" = some (some (.ref C_Job)))
    (pg_Job : PySem.W.plainGet K C_Job Str.empty = true)
    (hdi_Job : PySem.W.hasDictIn K C_Job = true)
    (po_Job : PySem.W.plainOver K C_Job = true)
    (sa_Job : PySem.W.findIn K (.ref C_Job) "__setattr__" = some (some (.builtin "object.__setattr__")))
    (mk_Job : PySem.W.makesIn K C_Job = true)
    (kc_Job : PySem.W.keepIn K (.ref C_Job) = true)
    (na_rule_Job : PySem.W.findIn K (.ref C_Job) "rule" = some none)
    (na_stem_Job : PySem.W.findIn K (.ref C_Job) "stem" = some none)
    (na_outputs_Job : PySem.W.findIn K (.ref C_Job) "outputs" = some none)
    (na_inputs_Job : PySem.W.findIn K (.ref C_Job) "inputs" = some none)
    (aC_StoreReader : PySem.W.nsIn K mainGlobals "StoreReader" = some (some (.ref C_StoreReader)))
    (pg_StoreReader : PySem.W.plainGet K C_StoreReader Str.empty = true)
    (hdi_StoreReader : PySem.W.hasDictIn K C_StoreReader = true)
    (po_StoreReader : PySem.W.plainOver K C_StoreReader = true)
    (sa_StoreReader : PySem.W.findIn K (.ref C_StoreReader) "__setattr__" = some (some (.builtin "object.__setattr__")))
    (mk_StoreReader : PySem.W.makesIn K C_StoreReader = true)
    (kc_StoreReader : PySem.W.keepIn K (.ref C_StoreReader) = true)
    (na_texts_StoreReader : PySem.W.findIn K (.ref C_StoreReader) "texts" = some none)
    (na_rows_StoreReader : PySem.W.findIn K (.ref C_StoreReader) "rows" = some none)
    (na_last_key_StoreReader : PySem.W.findIn K (.ref C_StoreReader) "last_key" = some none)
    (na_last_index_StoreReader : PySem.W.findIn K (.ref C_StoreReader) "last_index" = some none)
    (na_count_StoreReader : PySem.W.findIn K (.ref C_StoreReader) "count" = some none)
    {XB : Addr}
    {X_MissingContent N_MissingContent_ : Addr} {nm_MissingContent q_MissingContent : Str} {bs_MissingContent : List Value} {sn_MissingContent : List Str} {sub_MissingContent : List Value} {ab_MissingContent : Bool} {col_MissingContent : Option Bool} {dd_MissingContent : Option Addr} {m0_MissingContent m1_MissingContent m2_MissingContent m3_MissingContent m5_MissingContent : Option Value}
    {X_NoSuchRecord N_NoSuchRecord_ : Addr} {nm_NoSuchRecord q_NoSuchRecord : Str} {bs_NoSuchRecord : List Value} {sn_NoSuchRecord : List Str} {sub_NoSuchRecord : List Value} {ab_NoSuchRecord : Bool} {col_NoSuchRecord : Option Bool} {dd_NoSuchRecord : Option Addr} {m0_NoSuchRecord m1_NoSuchRecord m2_NoSuchRecord m3_NoSuchRecord m5_NoSuchRecord : Option Value}
    {X_InvalidRecipe N_InvalidRecipe_ : Addr} {nm_InvalidRecipe q_InvalidRecipe : Str} {bs_InvalidRecipe : List Value} {sn_InvalidRecipe : List Str} {sub_InvalidRecipe : List Value} {ab_InvalidRecipe : Bool} {col_InvalidRecipe : Option Bool} {dd_InvalidRecipe : Option Addr} {m0_InvalidRecipe m1_InvalidRecipe m2_InvalidRecipe m3_InvalidRecipe m5_InvalidRecipe : Option Value}
    {dT35 : Addr} {dc_35 : Value} {dod35 : Option Addr} {dn35 : Nat} {dsl35 : Array (Option Value)}
    {tk_NEWLINE tk_SPACE tk_PERCENT tk_TILDE tk_SIGNS_BEFORE tk_SIGNS_BEHIND tk_DIGIT_BITS tk_INDENT tk_SIGNS tk_QUOTE tk_BACKSLASH tk_WORD_ENDS tk_MOST_NAMES tk_NAME_LENGTH tk_NAME_SIGNS tk_NOTHING tk_YES tk_NO tk_MOST_DIGITS_saving : Tok}
    {D_ESCAPES : Addr} {es_ESCAPES : Array DictEntry} {n_ESCAPES : Nat}
    (aB : PySem.W.nsIn K mainGlobals "BuildError" = some (some (.ref XB)))
    (bsp : PySem.W.specialIn K (.ref XB) "__getattribute__" = some (some (.builtin "type.__getattribute__")))
    (brd : PySem.W.readsIn K XB (.type "type") = true)
    (bfi : PySem.W.findCls K (.ref XB) (.type "type") "__init__" = some (.val (.builtin "ValueError.__init__")))
    (bhd : PySem.W.hasDictIn K XB = true)
    (bty : PySem.W.typeIn K (.ref XB) = some (.type "type"))
    (xgs : PySem.W.specialIn K (.builtin "object.__class__") "__get__" = some (some (.builtin "getset_descriptor.__get__")))
    (xtk : PySem.W.takesIn K (.builtin "object.__class__") = some true)
    (xa_MissingContent : PySem.W.nsIn K mainGlobals "MissingContent" = some (some (.ref X_MissingContent)))
    (xL_MissingContent : K.lookup X_MissingContent = some (excClassObj nm_MissingContent q_MissingContent X_MissingContent N_MissingContent_ bs_MissingContent [.ref XB, .type "ValueError", .type "Exception", .type "BaseException", .type "object"] true sn_MissingContent sub_MissingContent ab_MissingContent col_MissingContent dd_MissingContent m0_MissingContent m1_MissingContent m2_MissingContent m3_MissingContent m5_MissingContent "ValueError.__new__"))
    (xsa_MissingContent : PySem.W.findIn K (.ref X_MissingContent) "__setattr__" = some (some (.builtin "object.__setattr__")))
    (xex_MissingContent : PySem.W.subIn K (.ref X_MissingContent) (.type "BaseException") = some true)
    (xty_MissingContent : PySem.W.typeIn K (.ref X_MissingContent) = some (.type "type"))
    (xkc_MissingContent : PySem.W.keepIn K (.ref X_MissingContent) = true)
    (xnkey_MissingContent : PySem.W.findIn K (.ref X_MissingContent) "key" = some none)
    (xga_MissingContent : PySem.W.findIn K (.ref X_MissingContent) "__getattribute__" = some (some (.builtin "BaseException.__getattribute__")))
    (xgg_MissingContent : PySem.W.findIn K (.ref X_MissingContent) "__getattr__" = some none)
    (xhd_MissingContent : PySem.W.hasDictIn K X_MissingContent = true)
    (xcl_MissingContent : PySem.W.findIn K (.ref X_MissingContent) "__class__" = some (some (.builtin "object.__class__")))
    (xmr_MissingContent : PySem.W.mroIn K X_MissingContent (.type "object") = some true)
    (xcc_MissingContent : PySem.W.subIn K (.ref X_MissingContent) (.ref X_MissingContent) = some true)
    (xkB_MissingContent : PySem.W.subIn K (.ref X_MissingContent) (.ref XB) = some true)
    (xa_NoSuchRecord : PySem.W.nsIn K mainGlobals "NoSuchRecord" = some (some (.ref X_NoSuchRecord)))
    (xL_NoSuchRecord : K.lookup X_NoSuchRecord = some (excClassObj nm_NoSuchRecord q_NoSuchRecord X_NoSuchRecord N_NoSuchRecord_ bs_NoSuchRecord [.ref XB, .type "ValueError", .type "Exception", .type "BaseException", .type "object"] true sn_NoSuchRecord sub_NoSuchRecord ab_NoSuchRecord col_NoSuchRecord dd_NoSuchRecord m0_NoSuchRecord m1_NoSuchRecord m2_NoSuchRecord m3_NoSuchRecord m5_NoSuchRecord "ValueError.__new__"))
    (xsa_NoSuchRecord : PySem.W.findIn K (.ref X_NoSuchRecord) "__setattr__" = some (some (.builtin "object.__setattr__")))
    (xex_NoSuchRecord : PySem.W.subIn K (.ref X_NoSuchRecord) (.type "BaseException") = some true)
    (xty_NoSuchRecord : PySem.W.typeIn K (.ref X_NoSuchRecord) = some (.type "type"))
    (xkc_NoSuchRecord : PySem.W.keepIn K (.ref X_NoSuchRecord) = true)
    (xnindex_NoSuchRecord : PySem.W.findIn K (.ref X_NoSuchRecord) "index" = some none)
    (xga_NoSuchRecord : PySem.W.findIn K (.ref X_NoSuchRecord) "__getattribute__" = some (some (.builtin "BaseException.__getattribute__")))
    (xgg_NoSuchRecord : PySem.W.findIn K (.ref X_NoSuchRecord) "__getattr__" = some none)
    (xhd_NoSuchRecord : PySem.W.hasDictIn K X_NoSuchRecord = true)
    (xcl_NoSuchRecord : PySem.W.findIn K (.ref X_NoSuchRecord) "__class__" = some (some (.builtin "object.__class__")))
    (xmr_NoSuchRecord : PySem.W.mroIn K X_NoSuchRecord (.type "object") = some true)
    (xcc_NoSuchRecord : PySem.W.subIn K (.ref X_NoSuchRecord) (.ref X_NoSuchRecord) = some true)
    (xkB_NoSuchRecord : PySem.W.subIn K (.ref X_NoSuchRecord) (.ref XB) = some true)
    (xa_InvalidRecipe : PySem.W.nsIn K mainGlobals "InvalidRecipe" = some (some (.ref X_InvalidRecipe)))
    (xL_InvalidRecipe : K.lookup X_InvalidRecipe = some (excClassObj nm_InvalidRecipe q_InvalidRecipe X_InvalidRecipe N_InvalidRecipe_ bs_InvalidRecipe [.ref XB, .type "ValueError", .type "Exception", .type "BaseException", .type "object"] true sn_InvalidRecipe sub_InvalidRecipe ab_InvalidRecipe col_InvalidRecipe dd_InvalidRecipe m0_InvalidRecipe m1_InvalidRecipe m2_InvalidRecipe m3_InvalidRecipe m5_InvalidRecipe "ValueError.__new__"))
    (xsa_InvalidRecipe : PySem.W.findIn K (.ref X_InvalidRecipe) "__setattr__" = some (some (.builtin "object.__setattr__")))
    (xex_InvalidRecipe : PySem.W.subIn K (.ref X_InvalidRecipe) (.type "BaseException") = some true)
    (xty_InvalidRecipe : PySem.W.typeIn K (.ref X_InvalidRecipe) = some (.type "type"))
    (xkc_InvalidRecipe : PySem.W.keepIn K (.ref X_InvalidRecipe) = true)
    (xnpath_InvalidRecipe : PySem.W.findIn K (.ref X_InvalidRecipe) "path" = some none)
    (xnline_InvalidRecipe : PySem.W.findIn K (.ref X_InvalidRecipe) "line" = some none)
    (xncolumn_InvalidRecipe : PySem.W.findIn K (.ref X_InvalidRecipe) "column" = some none)
    (xnreason_InvalidRecipe : PySem.W.findIn K (.ref X_InvalidRecipe) "reason" = some none)
    (xga_InvalidRecipe : PySem.W.findIn K (.ref X_InvalidRecipe) "__getattribute__" = some (some (.builtin "BaseException.__getattribute__")))
    (xgg_InvalidRecipe : PySem.W.findIn K (.ref X_InvalidRecipe) "__getattr__" = some none)
    (xhd_InvalidRecipe : PySem.W.hasDictIn K X_InvalidRecipe = true)
    (xcl_InvalidRecipe : PySem.W.findIn K (.ref X_InvalidRecipe) "__class__" = some (some (.builtin "object.__class__")))
    (xmr_InvalidRecipe : PySem.W.mroIn K X_InvalidRecipe (.type "object") = some true)
    (xcc_InvalidRecipe : PySem.W.subIn K (.ref X_InvalidRecipe) (.ref X_InvalidRecipe) = some true)
    (xkB_InvalidRecipe : PySem.W.subIn K (.ref X_InvalidRecipe) (.ref XB) = some true)
    (a0 : PySem.W.findIn K (.ref X_MissingContent) "__init__" = some (some (.ref f0)))
    (i0 : PySem.W.typeIn K (.ref f0) = some (.type "function"))
    (l0 : K.lookup f0 = some ⟨oc0, od0, .func (PySem.W.fnOf "__init__" "MissingContent.__init__" (defArgs s_MissingContent___init__) (defBody s_MissingContent___init__) (defScope s_MissingContent___init__) .none kV0 dc0 pm0 an0 cd0 ct0), sl0⟩)
    (c0 : PySem.W.codeIn K cd0 "MissingContent.__init__" = true)
    (k0 : PySem.W.keepIn K (.ref f0) = true)
    (a1 : PySem.W.findIn K (.ref X_NoSuchRecord) "__init__" = some (some (.ref f1)))
    (i1 : PySem.W.typeIn K (.ref f1) = some (.type "function"))
    (l1 : K.lookup f1 = some ⟨oc1, od1, .func (PySem.W.fnOf "__init__" "NoSuchRecord.__init__" (defArgs s_NoSuchRecord___init__) (defBody s_NoSuchRecord___init__) (defScope s_NoSuchRecord___init__) .none kV1 dc1 pm1 an1 cd1 ct1), sl1⟩)
    (c1 : PySem.W.codeIn K cd1 "NoSuchRecord.__init__" = true)
    (k1 : PySem.W.keepIn K (.ref f1) = true)
    (a2 : PySem.W.findIn K (.ref X_InvalidRecipe) "__init__" = some (some (.ref f2)))
    (i2 : PySem.W.typeIn K (.ref f2) = some (.type "function"))
    (l2 : K.lookup f2 = some ⟨oc2, od2, .func (PySem.W.fnOf "__init__" "InvalidRecipe.__init__" (defArgs s_InvalidRecipe___init__) (defBody s_InvalidRecipe___init__) (defScope s_InvalidRecipe___init__) .none kV2 dc2 pm2 an2 cd2 ct2), sl2⟩)
    (c2 : PySem.W.codeIn K cd2 "InvalidRecipe.__init__" = true)
    (k2 : PySem.W.keepIn K (.ref f2) = true)
    (a3 : PySem.W.nsIn K mainGlobals "_is_code" = some (some (.ref f3)))
    (l3 : K.lookup f3 = some ⟨oc3, od3, .func (PySem.W.fnOf "_is_code" "_is_code" (defArgs s__is_code) (defBody s__is_code) (defScope s__is_code) .none kV3 dc3 pm3 an3 cd3 ct3), sl3⟩)
    (c3 : PySem.W.codeIn K cd3 "_is_code" = true)
    (k3 : PySem.W.keepIn K (.ref f3) = true)
    (a4 : PySem.W.nsIn K mainGlobals "is_text" = some (some (.ref f4)))
    (l4 : K.lookup f4 = some ⟨oc4, od4, .func (PySem.W.fnOf "is_text" "is_text" (defArgs s_is_text) (defBody s_is_text) (defScope s_is_text) .none kV4 dc4 pm4 an4 cd4 ct4), sl4⟩)
    (c4 : PySem.W.codeIn K cd4 "is_text" = true)
    (k4 : PySem.W.keepIn K (.ref f4) = true)
    (a5 : PySem.W.nsIn K mainGlobals "content_key" = some (some (.ref f5)))
    (l5 : K.lookup f5 = some ⟨oc5, od5, .func (PySem.W.fnOf "content_key" "content_key" (defArgs s_content_key) (defBody s_content_key) (defScope s_content_key) .none kV5 dc5 pm5 an5 cd5 ct5), sl5⟩)
    (c5 : PySem.W.codeIn K cd5 "content_key" = true)
    (k5 : PySem.W.keepIn K (.ref f5) = true)
    (a6 : PySem.W.nsIn K mainGlobals "_codes" = some (some (.ref f6)))
    (l6 : K.lookup f6 = some ⟨oc6, od6, .func (PySem.W.fnOf "_codes" "_codes" (defArgs s__codes) (defBody s__codes) (defScope s__codes) .none kV6 dc6 pm6 an6 cd6 ct6), sl6⟩)
    (c6 : PySem.W.codeIn K cd6 "_codes" = true)
    (k6 : PySem.W.keepIn K (.ref f6) = true)
    (a7 : PySem.W.nsIn K mainGlobals "_sign" = some (some (.ref f7)))
    (l7 : K.lookup f7 = some ⟨oc7, od7, .func (PySem.W.fnOf "_sign" "_sign" (defArgs s__sign) (defBody s__sign) (defScope s__sign) .none kV7 dc7 pm7 an7 cd7 ct7), sl7⟩)
    (c7 : PySem.W.codeIn K cd7 "_sign" = true)
    (k7 : PySem.W.keepIn K (.ref f7) = true)
    (a8 : PySem.W.nsIn K mainGlobals "key_text" = some (some (.ref f8)))
    (l8 : K.lookup f8 = some ⟨oc8, od8, .func (PySem.W.fnOf "key_text" "key_text" (defArgs s_key_text) (defBody s_key_text) (defScope s_key_text) .none kV8 dc8 pm8 an8 cd8 ct8), sl8⟩)
    (c8 : PySem.W.codeIn K cd8 "key_text" = true)
    (k8 : PySem.W.keepIn K (.ref f8) = true)
    (a9 : PySem.W.nsIn K mainGlobals "format_string" = some (some (.ref f9)))
    (l9 : K.lookup f9 = some ⟨oc9, od9, .func (PySem.W.fnOf "format_string" "format_string" (defArgs s_format_string) (defBody s_format_string) (defScope s_format_string) .none kV9 dc9 pm9 an9 cd9 ct9), sl9⟩)
    (c9 : PySem.W.codeIn K cd9 "format_string" = true)
    (k9 : PySem.W.keepIn K (.ref f9) = true)
    (a10 : PySem.W.nsIn K mainGlobals "_first_line" = some (some (.ref f10)))
    (l10 : K.lookup f10 = some ⟨oc10, od10, .func (PySem.W.fnOf "_first_line" "_first_line" (defArgs s__first_line) (defBody s__first_line) (defScope s__first_line) .none kV10 dc10 pm10 an10 cd10 ct10), sl10⟩)
    (c10 : PySem.W.codeIn K cd10 "_first_line" = true)
    (k10 : PySem.W.keepIn K (.ref f10) = true)
    (a11 : PySem.W.nsIn K mainGlobals "_block_lines" = some (some (.ref f11)))
    (l11 : K.lookup f11 = some ⟨oc11, od11, .func (PySem.W.fnOf "_block_lines" "_block_lines" (defArgs s__block_lines) (defBody s__block_lines) (defScope s__block_lines) .none kV11 dc11 pm11 an11 cd11 ct11), sl11⟩)
    (c11 : PySem.W.codeIn K cd11 "_block_lines" = true)
    (k11 : PySem.W.keepIn K (.ref f11) = true)
    (a12 : PySem.W.nsIn K mainGlobals "_body_lines" = some (some (.ref f12)))
    (l12 : K.lookup f12 = some ⟨oc12, od12, .func (PySem.W.fnOf "_body_lines" "_body_lines" (defArgs s__body_lines) (defBody s__body_lines) (defScope s__body_lines) .none kV12 dc12 pm12 an12 cd12 ct12), sl12⟩)
    (c12 : PySem.W.codeIn K cd12 "_body_lines" = true)
    (k12 : PySem.W.keepIn K (.ref f12) = true)
    (a13 : PySem.W.findIn K (.ref C_Rule) "__init__" = some (some (.ref f13)))
    (i13 : PySem.W.isFn K (.ref f13) = true)
    (l13 : K.lookup f13 = some ⟨oc13, od13, .func (PySem.W.fnOf "__init__" "Rule.__init__" (defArgs s_Rule___init__) (defBody s_Rule___init__) (defScope s_Rule___init__) .none kV13 dc13 pm13 an13 cd13 ct13), sl13⟩)
    (c13 : PySem.W.codeIn K cd13 "Rule.__init__" = true)
    (k13 : PySem.W.keepIn K (.ref f13) = true)
    (a14 : PySem.W.findIn K (.ref C_Book) "__init__" = some (some (.ref f14)))
    (i14 : PySem.W.isFn K (.ref f14) = true)
    (l14 : K.lookup f14 = some ⟨oc14, od14, .func (PySem.W.fnOf "__init__" "Book.__init__" (defArgs s_Book___init__) (defBody s_Book___init__) (defScope s_Book___init__) .none kV14 dc14 pm14 an14 cd14 ct14), sl14⟩)
    (c14 : PySem.W.codeIn K cd14 "Book.__init__" = true)
    (k14 : PySem.W.keepIn K (.ref f14) = true)
    (a15 : PySem.W.findIn K (.ref C_Job) "__init__" = some (some (.ref f15)))
    (i15 : PySem.W.isFn K (.ref f15) = true)
    (l15 : K.lookup f15 = some ⟨oc15, od15, .func (PySem.W.fnOf "__init__" "Job.__init__" (defArgs s_Job___init__) (defBody s_Job___init__) (defScope s_Job___init__) .none kV15 dc15 pm15 an15 cd15 ct15), sl15⟩)
    (c15 : PySem.W.codeIn K cd15 "Job.__init__" = true)
    (k15 : PySem.W.keepIn K (.ref f15) = true)
    (a16 : PySem.W.nsIn K mainGlobals "format_rule" = some (some (.ref f16)))
    (l16 : K.lookup f16 = some ⟨oc16, od16, .func (PySem.W.fnOf "format_rule" "format_rule" (defArgs s_format_rule) (defBody s_format_rule) (defScope s_format_rule) .none kV16 dc16 pm16 an16 cd16 ct16), sl16⟩)
    (c16 : PySem.W.codeIn K cd16 "format_rule" = true)
    (k16 : PySem.W.keepIn K (.ref f16) = true)
    (a17 : PySem.W.nsIn K mainGlobals "_is_name" = some (some (.ref f17)))
    (l17 : K.lookup f17 = some ⟨oc17, od17, .func (PySem.W.fnOf "_is_name" "_is_name" (defArgs s__is_name) (defBody s__is_name) (defScope s__is_name) .none kV17 dc17 pm17 an17 cd17 ct17), sl17⟩)
    (c17 : PySem.W.codeIn K cd17 "_is_name" = true)
    (k17 : PySem.W.keepIn K (.ref f17) = true)
    (a18 : PySem.W.nsIn K mainGlobals "is_path" = some (some (.ref f18)))
    (l18 : K.lookup f18 = some ⟨oc18, od18, .func (PySem.W.fnOf "is_path" "is_path" (defArgs s_is_path) (defBody s_is_path) (defScope s_is_path) .none kV18 dc18 pm18 an18 cd18 ct18), sl18⟩)
    (c18 : PySem.W.codeIn K cd18 "is_path" = true)
    (k18 : PySem.W.keepIn K (.ref f18) = true)
    (a19 : PySem.W.nsIn K mainGlobals "fill" = some (some (.ref f19)))
    (l19 : K.lookup f19 = some ⟨oc19, od19, .func (PySem.W.fnOf "fill" "fill" (defArgs s_fill) (defBody s_fill) (defScope s_fill) .none kV19 dc19 pm19 an19 cd19 ct19), sl19⟩)
    (c19 : PySem.W.codeIn K cd19 "fill" = true)
    (k19 : PySem.W.keepIn K (.ref f19) = true)
    (a20 : PySem.W.nsIn K mainGlobals "make_job" = some (some (.ref f20)))
    (l20 : K.lookup f20 = some ⟨oc20, od20, .func (PySem.W.fnOf "make_job" "make_job" (defArgs s_make_job) (defBody s_make_job) (defScope s_make_job) .none kV20 dc20 pm20 an20 cd20 ct20), sl20⟩)
    (c20 : PySem.W.codeIn K cd20 "make_job" = true)
    (k20 : PySem.W.keepIn K (.ref f20) = true)
    (a21 : PySem.W.nsIn K mainGlobals "rule_text" = some (some (.ref f21)))
    (l21 : K.lookup f21 = some ⟨oc21, od21, .func (PySem.W.fnOf "rule_text" "rule_text" (defArgs s_rule_text) (defBody s_rule_text) (defScope s_rule_text) .none kV21 dc21 pm21 an21 cd21 ct21), sl21⟩)
    (c21 : PySem.W.codeIn K cd21 "rule_text" = true)
    (k21 : PySem.W.keepIn K (.ref f21) = true)
    (a22 : PySem.W.nsIn K mainGlobals "rule_key" = some (some (.ref f22)))
    (l22 : K.lookup f22 = some ⟨oc22, od22, .func (PySem.W.fnOf "rule_key" "rule_key" (defArgs s_rule_key) (defBody s_rule_key) (defScope s_rule_key) .none kV22 dc22 pm22 an22 cd22 ct22), sl22⟩)
    (c22 : PySem.W.codeIn K cd22 "rule_key" = true)
    (k22 : PySem.W.keepIn K (.ref f22) = true)
    (a23 : PySem.W.nsIn K mainGlobals "_skip_spaces" = some (some (.ref f23)))
    (l23 : K.lookup f23 = some ⟨oc23, od23, .func (PySem.W.fnOf "_skip_spaces" "_skip_spaces" (defArgs s__skip_spaces) (defBody s__skip_spaces) (defScope s__skip_spaces) .none kV23 dc23 pm23 an23 cd23 ct23), sl23⟩)
    (c23 : PySem.W.codeIn K cd23 "_skip_spaces" = true)
    (k23 : PySem.W.keepIn K (.ref f23) = true)
    (a24 : PySem.W.nsIn K mainGlobals "_string_part" = some (some (.ref f24)))
    (l24 : K.lookup f24 = some ⟨oc24, od24, .func (PySem.W.fnOf "_string_part" "_string_part" (defArgs s__string_part) (defBody s__string_part) (defScope s__string_part) .none kV24 dc24 pm24 an24 cd24 ct24), sl24⟩)
    (c24 : PySem.W.codeIn K cd24 "_string_part" = true)
    (k24 : PySem.W.keepIn K (.ref f24) = true)
    (a25 : PySem.W.nsIn K mainGlobals "_string" = some (some (.ref f25)))
    (l25 : K.lookup f25 = some ⟨oc25, od25, .func (PySem.W.fnOf "_string" "_string" (defArgs s__string) (defBody s__string) (defScope s__string) .none kV25 dc25 pm25 an25 cd25 ct25), sl25⟩)
    (c25 : PySem.W.codeIn K cd25 "_string" = true)
    (k25 : PySem.W.keepIn K (.ref f25) = true)
    (a26 : PySem.W.nsIn K mainGlobals "_token" = some (some (.ref f26)))
    (l26 : K.lookup f26 = some ⟨oc26, od26, .func (PySem.W.fnOf "_token" "_token" (defArgs s__token) (defBody s__token) (defScope s__token) .none kV26 dc26 pm26 an26 cd26 ct26), sl26⟩)
    (c26 : PySem.W.codeIn K cd26 "_token" = true)
    (k26 : PySem.W.keepIn K (.ref f26) = true)
    (a27 : PySem.W.nsIn K mainGlobals "scan_line" = some (some (.ref f27)))
    (l27 : K.lookup f27 = some ⟨oc27, od27, .func (PySem.W.fnOf "scan_line" "scan_line" (defArgs s_scan_line) (defBody s_scan_line) (defScope s_scan_line) .none kV27 dc27 pm27 an27 cd27 ct27), sl27⟩)
    (c27 : PySem.W.codeIn K cd27 "scan_line" = true)
    (k27 : PySem.W.keepIn K (.ref f27) = true)
    (a28 : PySem.W.nsIn K mainGlobals "lines_of" = some (some (.ref f28)))
    (l28 : K.lookup f28 = some ⟨oc28, od28, .func (PySem.W.fnOf "lines_of" "lines_of" (defArgs s_lines_of) (defBody s_lines_of) (defScope s_lines_of) .none kV28 dc28 pm28 an28 cd28 ct28), sl28⟩)
    (c28 : PySem.W.codeIn K cd28 "lines_of" = true)
    (k28 : PySem.W.keepIn K (.ref f28) = true)
    (a29 : PySem.W.findIn K (.ref C_Record) "__init__" = some (some (.ref f29)))
    (i29 : PySem.W.isFn K (.ref f29) = true)
    (l29 : K.lookup f29 = some ⟨oc29, od29, .func (PySem.W.fnOf "__init__" "Record.__init__" (defArgs s_Record___init__) (defBody s_Record___init__) (defScope s_Record___init__) .none kV29 dc29 pm29 an29 cd29 ct29), sl29⟩)
    (c29 : PySem.W.codeIn K cd29 "Record.__init__" = true)
    (k29 : PySem.W.keepIn K (.ref f29) = true)
    (a30 : PySem.W.nsIn K mainGlobals "question" = some (some (.ref f30)))
    (l30 : K.lookup f30 = some ⟨oc30, od30, .func (PySem.W.fnOf "question" "question" (defArgs s_question) (defBody s_question) (defScope s_question) .none kV30 dc30 pm30 an30 cd30 ct30), sl30⟩)
    (c30 : PySem.W.codeIn K cd30 "question" = true)
    (k30 : PySem.W.keepIn K (.ref f30) = true)
    (a31 : PySem.W.nsIn K mainGlobals "_format_seen" = some (some (.ref f31)))
    (l31 : K.lookup f31 = some ⟨oc31, od31, .func (PySem.W.fnOf "_format_seen" "_format_seen" (defArgs s__format_seen) (defBody s__format_seen) (defScope s__format_seen) .none kV31 dc31 pm31 an31 cd31 ct31), sl31⟩)
    (c31 : PySem.W.codeIn K cd31 "_format_seen" = true)
    (k31 : PySem.W.keepIn K (.ref f31) = true)
    (a32 : PySem.W.nsIn K mainGlobals "_format_need" = some (some (.ref f32)))
    (l32 : K.lookup f32 = some ⟨oc32, od32, .func (PySem.W.fnOf "_format_need" "_format_need" (defArgs s__format_need) (defBody s__format_need) (defScope s__format_need) .none kV32 dc32 pm32 an32 cd32 ct32), sl32⟩)
    (c32 : PySem.W.codeIn K cd32 "_format_need" = true)
    (k32 : PySem.W.keepIn K (.ref f32) = true)
    (a33 : PySem.W.nsIn K mainGlobals "format_record" = some (some (.ref f33)))
    (l33 : K.lookup f33 = some ⟨oc33, od33, .func (PySem.W.fnOf "format_record" "format_record" (defArgs s_format_record) (defBody s_format_record) (defScope s_format_record) .none kV33 dc33 pm33 an33 cd33 ct33), sl33⟩)
    (c33 : PySem.W.codeIn K cd33 "format_record" = true)
    (k33 : PySem.W.keepIn K (.ref f33) = true)
    (a34 : PySem.W.nsIn K mainGlobals "_law_cell" = some (some (.ref f34)))
    (l34 : K.lookup f34 = some ⟨oc34, od34, .func (PySem.W.fnOf "_law_cell" "_law_cell" (defArgs s__law_cell) (defBody s__law_cell) (defScope s__law_cell) .none kV34 dc34 pm34 an34 cd34 ct34), sl34⟩)
    (c34 : PySem.W.codeIn K cd34 "_law_cell" = true)
    (k34 : PySem.W.keepIn K (.ref f34) = true)
    (a35 : PySem.W.findIn K (.ref C_Store) "__init__" = some (some (.ref f35)))
    (i35 : PySem.W.isFn K (.ref f35) = true)
    (l35 : K.lookup f35 = some ⟨oc35, od35, .func (PySem.W.fnOf "__init__" "Store.__init__" (defArgs s_Store___init__) (defBody s_Store___init__) (defScope s_Store___init__) (.ref dT35) kV35 dc35 pm35 an35 cd35 ct35), sl35⟩)
    (dl35 : K.lookup dT35 = some ⟨dc_35, dod35, .seq #[.none] dn35, dsl35⟩)
    (c35 : PySem.W.codeIn K cd35 "Store.__init__" = true)
    (k35 : PySem.W.keepIn K (.ref f35) = true)
    (a36 : PySem.W.findIn K (.ref C_Store) "has_content" = some (some (.ref f36)))
    (i36 : PySem.W.isFn K (.ref f36) = true)
    (l36 : K.lookup f36 = some ⟨oc36, od36, .func (PySem.W.fnOf "has_content" "Store.has_content" (defArgs s_Store_has_content) (defBody s_Store_has_content) (defScope s_Store_has_content) .none kV36 dc36 pm36 an36 cd36 ct36), sl36⟩)
    (c36 : PySem.W.codeIn K cd36 "Store.has_content" = true)
    (k36 : PySem.W.keepIn K (.ref f36) = true)
    (a37 : PySem.W.findIn K (.ref C_Store) "put_content" = some (some (.ref f37)))
    (i37 : PySem.W.isFn K (.ref f37) = true)
    (l37 : K.lookup f37 = some ⟨oc37, od37, .func (PySem.W.fnOf "put_content" "Store.put_content" (defArgs s_Store_put_content) (defBody s_Store_put_content) (defScope s_Store_put_content) .none kV37 dc37 pm37 an37 cd37 ct37), sl37⟩)
    (c37 : PySem.W.codeIn K cd37 "Store.put_content" = true)
    (k37 : PySem.W.keepIn K (.ref f37) = true)
    (a38 : PySem.W.findIn K (.ref C_Store) "add_record" = some (some (.ref f38)))
    (i38 : PySem.W.isFn K (.ref f38) = true)
    (l38 : K.lookup f38 = some ⟨oc38, od38, .func (PySem.W.fnOf "add_record" "Store.add_record" (defArgs s_Store_add_record) (defBody s_Store_add_record) (defScope s_Store_add_record) .none kV38 dc38 pm38 an38 cd38 ct38), sl38⟩)
    (c38 : PySem.W.codeIn K cd38 "Store.add_record" = true)
    (k38 : PySem.W.keepIn K (.ref f38) = true)
    (a39 : PySem.W.findIn K (.ref C_Store) "_check_content" = some (some (.ref f39)))
    (i39 : PySem.W.isFn K (.ref f39) = true)
    (l39 : K.lookup f39 = some ⟨oc39, od39, .func (PySem.W.fnOf "_check_content" "Store._check_content" (defArgs s_Store__check_content) (defBody s_Store__check_content) (defScope s_Store__check_content) .none kV39 dc39 pm39 an39 cd39 ct39), sl39⟩)
    (c39 : PySem.W.codeIn K cd39 "Store._check_content" = true)
    (k39 : PySem.W.keepIn K (.ref f39) = true)
    (a40 : PySem.W.findIn K (.ref C_Store) "lose_content" = some (some (.ref f40)))
    (i40 : PySem.W.isFn K (.ref f40) = true)
    (l40 : K.lookup f40 = some ⟨oc40, od40, .func (PySem.W.fnOf "lose_content" "Store.lose_content" (defArgs s_Store_lose_content) (defBody s_Store_lose_content) (defScope s_Store_lose_content) .none kV40 dc40 pm40 an40 cd40 ct40), sl40⟩)
    (c40 : PySem.W.codeIn K cd40 "Store.lose_content" = true)
    (k40 : PySem.W.keepIn K (.ref f40) = true)
    (a41 : PySem.W.findIn K (.ref C_Store) "damage_content" = some (some (.ref f41)))
    (i41 : PySem.W.isFn K (.ref f41) = true)
    (l41 : K.lookup f41 = some ⟨oc41, od41, .func (PySem.W.fnOf "damage_content" "Store.damage_content" (defArgs s_Store_damage_content) (defBody s_Store_damage_content) (defScope s_Store_damage_content) .none kV41 dc41 pm41 an41 cd41 ct41), sl41⟩)
    (c41 : PySem.W.codeIn K cd41 "Store.damage_content" = true)
    (k41 : PySem.W.keepIn K (.ref f41) = true)
    (a42 : PySem.W.findIn K (.ref C_Store) "_check_kept" = some (some (.ref f42)))
    (i42 : PySem.W.isFn K (.ref f42) = true)
    (l42 : K.lookup f42 = some ⟨oc42, od42, .func (PySem.W.fnOf "_check_kept" "Store._check_kept" (defArgs s_Store__check_kept) (defBody s_Store__check_kept) (defScope s_Store__check_kept) .none kV42 dc42 pm42 an42 cd42 ct42), sl42⟩)
    (c42 : PySem.W.codeIn K cd42 "Store._check_kept" = true)
    (k42 : PySem.W.keepIn K (.ref f42) = true)
    (a43 : PySem.W.findIn K (.ref C_Store) "lose_record" = some (some (.ref f43)))
    (i43 : PySem.W.isFn K (.ref f43) = true)
    (l43 : K.lookup f43 = some ⟨oc43, od43, .func (PySem.W.fnOf "lose_record" "Store.lose_record" (defArgs s_Store_lose_record) (defBody s_Store_lose_record) (defScope s_Store_lose_record) .none kV43 dc43 pm43 an43 cd43 ct43), sl43⟩)
    (c43 : PySem.W.codeIn K cd43 "Store.lose_record" = true)
    (k43 : PySem.W.keepIn K (.ref f43) = true)
    (a44 : PySem.W.findIn K (.ref C_Store) "damage_record" = some (some (.ref f44)))
    (i44 : PySem.W.isFn K (.ref f44) = true)
    (l44 : K.lookup f44 = some ⟨oc44, od44, .func (PySem.W.fnOf "damage_record" "Store.damage_record" (defArgs s_Store_damage_record) (defBody s_Store_damage_record) (defScope s_Store_damage_record) .none kV44 dc44 pm44 an44 cd44 ct44), sl44⟩)
    (c44 : PySem.W.codeIn K cd44 "Store.damage_record" = true)
    (k44 : PySem.W.keepIn K (.ref f44) = true)
    (a45 : PySem.W.findIn K (.ref C_Store) "record_count" = some (some (.ref f45)))
    (i45 : PySem.W.isFn K (.ref f45) = true)
    (l45 : K.lookup f45 = some ⟨oc45, od45, .func (PySem.W.fnOf "record_count" "Store.record_count" (defArgs s_Store_record_count) (defBody s_Store_record_count) (defScope s_Store_record_count) .none kV45 dc45 pm45 an45 cd45 ct45), sl45⟩)
    (c45 : PySem.W.codeIn K cd45 "Store.record_count" = true)
    (k45 : PySem.W.keepIn K (.ref f45) = true)
    (a46 : PySem.W.findIn K (.ref C_Store) "kept_records" = some (some (.ref f46)))
    (i46 : PySem.W.isFn K (.ref f46) = true)
    (l46 : K.lookup f46 = some ⟨oc46, od46, .func (PySem.W.fnOf "kept_records" "Store.kept_records" (defArgs s_Store_kept_records) (defBody s_Store_kept_records) (defScope s_Store_kept_records) .none kV46 dc46 pm46 an46 cd46 ct46), sl46⟩)
    (c46 : PySem.W.codeIn K cd46 "Store.kept_records" = true)
    (k46 : PySem.W.keepIn K (.ref f46) = true)
    (a47 : PySem.W.findIn K (.ref C_Store) "kept_texts" = some (some (.ref f47)))
    (i47 : PySem.W.isFn K (.ref f47) = true)
    (l47 : K.lookup f47 = some ⟨oc47, od47, .func (PySem.W.fnOf "kept_texts" "Store.kept_texts" (defArgs s_Store_kept_texts) (defBody s_Store_kept_texts) (defScope s_Store_kept_texts) .none kV47 dc47 pm47 an47 cd47 ct47), sl47⟩)
    (c47 : PySem.W.codeIn K cd47 "Store.kept_texts" = true)
    (k47 : PySem.W.keepIn K (.ref f47) = true)
    (a48 : PySem.W.findIn K (.ref C_Store) "content_keys" = some (some (.ref f48)))
    (i48 : PySem.W.isFn K (.ref f48) = true)
    (l48 : K.lookup f48 = some ⟨oc48, od48, .func (PySem.W.fnOf "content_keys" "Store.content_keys" (defArgs s_Store_content_keys) (defBody s_Store_content_keys) (defScope s_Store_content_keys) .none kV48 dc48 pm48 an48 cd48 ct48), sl48⟩)
    (c48 : PySem.W.codeIn K cd48 "Store.content_keys" = true)
    (k48 : PySem.W.keepIn K (.ref f48) = true)
    (a49 : PySem.W.findIn K (.ref C_Store) "fill_from" = some (some (.ref f49)))
    (i49 : PySem.W.isFn K (.ref f49) = true)
    (l49 : K.lookup f49 = some ⟨oc49, od49, .func (PySem.W.fnOf "fill_from" "Store.fill_from" (defArgs s_Store_fill_from) (defBody s_Store_fill_from) (defScope s_Store_fill_from) .none kV49 dc49 pm49 an49 cd49 ct49), sl49⟩)
    (c49 : PySem.W.codeIn K cd49 "Store.fill_from" = true)
    (k49 : PySem.W.keepIn K (.ref f49) = true)
    (a50 : PySem.W.nsIn K mainGlobals "_content_line" = some (some (.ref f50)))
    (l50 : K.lookup f50 = some ⟨oc50, od50, .func (PySem.W.fnOf "_content_line" "_content_line" (defArgs s__content_line) (defBody s__content_line) (defScope s__content_line) .none kV50 dc50 pm50 an50 cd50 ct50), sl50⟩)
    (c50 : PySem.W.codeIn K cd50 "_content_line" = true)
    (k50 : PySem.W.keepIn K (.ref f50) = true)
    (a51 : PySem.W.nsIn K mainGlobals "_row_line" = some (some (.ref f51)))
    (l51 : K.lookup f51 = some ⟨oc51, od51, .func (PySem.W.fnOf "_row_line" "_row_line" (defArgs s__row_line) (defBody s__row_line) (defScope s__row_line) .none kV51 dc51 pm51 an51 cd51 ct51), sl51⟩)
    (c51 : PySem.W.codeIn K cd51 "_row_line" = true)
    (k51 : PySem.W.keepIn K (.ref f51) = true)
    (a52 : PySem.W.nsIn K mainGlobals "_count_line" = some (some (.ref f52)))
    (l52 : K.lookup f52 = some ⟨oc52, od52, .func (PySem.W.fnOf "_count_line" "_count_line" (defArgs s__count_line) (defBody s__count_line) (defScope s__count_line) .none kV52 dc52 pm52 an52 cd52 ct52), sl52⟩)
    (c52 : PySem.W.codeIn K cd52 "_count_line" = true)
    (k52 : PySem.W.keepIn K (.ref f52) = true)
    (a53 : PySem.W.nsIn K mainGlobals "_parts" = some (some (.ref f53)))
    (l53 : K.lookup f53 = some ⟨oc53, od53, .func (PySem.W.fnOf "_parts" "_parts" (defArgs s__parts) (defBody s__parts) (defScope s__parts) .none kV53 dc53 pm53 an53 cd53 ct53), sl53⟩)
    (c53 : PySem.W.codeIn K cd53 "_parts" = true)
    (k53 : PySem.W.keepIn K (.ref f53) = true)
    (a54 : PySem.W.nsIn K mainGlobals "is_number_saving" = some (some (.ref f54)))
    (l54 : K.lookup f54 = some ⟨oc54, od54, .func (PySem.W.fnOf "_is_number" "_is_number" (defArgs s__is_number) (defBody s__is_number) (defScope s__is_number) .none kV54 dc54 pm54 an54 cd54 ct54), sl54⟩)
    (c54 : PySem.W.codeIn K cd54 "_is_number" = true)
    (k54 : PySem.W.keepIn K (.ref f54) = true)
    (a55 : PySem.W.findIn K (.ref C_StoreReader) "__init__" = some (some (.ref f55)))
    (i55 : PySem.W.isFn K (.ref f55) = true)
    (l55 : K.lookup f55 = some ⟨oc55, od55, .func (PySem.W.fnOf "__init__" "StoreReader.__init__" (defArgs s_StoreReader___init__) (defBody s_StoreReader___init__) (defScope s_StoreReader___init__) .none kV55 dc55 pm55 an55 cd55 ct55), sl55⟩)
    (c55 : PySem.W.codeIn K cd55 "StoreReader.__init__" = true)
    (k55 : PySem.W.keepIn K (.ref f55) = true)
    (a56 : PySem.W.findIn K (.ref C_StoreReader) "_read_content" = some (some (.ref f56)))
    (i56 : PySem.W.isFn K (.ref f56) = true)
    (l56 : K.lookup f56 = some ⟨oc56, od56, .func (PySem.W.fnOf "_read_content" "StoreReader._read_content" (defArgs s_StoreReader__read_content) (defBody s_StoreReader__read_content) (defScope s_StoreReader__read_content) .none kV56 dc56 pm56 an56 cd56 ct56), sl56⟩)
    (c56 : PySem.W.codeIn K cd56 "StoreReader._read_content" = true)
    (k56 : PySem.W.keepIn K (.ref f56) = true)
    (a57 : PySem.W.findIn K (.ref C_StoreReader) "_read_record" = some (some (.ref f57)))
    (i57 : PySem.W.isFn K (.ref f57) = true)
    (l57 : K.lookup f57 = some ⟨oc57, od57, .func (PySem.W.fnOf "_read_record" "StoreReader._read_record" (defArgs s_StoreReader__read_record) (defBody s_StoreReader__read_record) (defScope s_StoreReader__read_record) .none kV57 dc57 pm57 an57 cd57 ct57), sl57⟩)
    (c57 : PySem.W.codeIn K cd57 "StoreReader._read_record" = true)
    (k57 : PySem.W.keepIn K (.ref f57) = true)
    (a58 : PySem.W.findIn K (.ref C_StoreReader) "_read_count" = some (some (.ref f58)))
    (i58 : PySem.W.isFn K (.ref f58) = true)
    (l58 : K.lookup f58 = some ⟨oc58, od58, .func (PySem.W.fnOf "_read_count" "StoreReader._read_count" (defArgs s_StoreReader__read_count) (defBody s_StoreReader__read_count) (defScope s_StoreReader__read_count) .none kV58 dc58 pm58 an58 cd58 ct58), sl58⟩)
    (c58 : PySem.W.codeIn K cd58 "StoreReader._read_count" = true)
    (k58 : PySem.W.keepIn K (.ref f58) = true)
    (a59 : PySem.W.findIn K (.ref C_StoreReader) "read" = some (some (.ref f59)))
    (i59 : PySem.W.isFn K (.ref f59) = true)
    (l59 : K.lookup f59 = some ⟨oc59, od59, .func (PySem.W.fnOf "read" "StoreReader.read" (defArgs s_StoreReader_read) (defBody s_StoreReader_read) (defScope s_StoreReader_read) .none kV59 dc59 pm59 an59 cd59 ct59), sl59⟩)
    (c59 : PySem.W.codeIn K cd59 "StoreReader.read" = true)
    (k59 : PySem.W.keepIn K (.ref f59) = true)
    (a60 : PySem.W.nsIn K mainGlobals "save_store" = some (some (.ref f60)))
    (l60 : K.lookup f60 = some ⟨oc60, od60, .func (PySem.W.fnOf "save_store" "save_store" (defArgs s_save_store) (defBody s_save_store) (defScope s_save_store) .none kV60 dc60 pm60 an60 cd60 ct60), sl60⟩)
    (c60 : PySem.W.codeIn K cd60 "save_store" = true)
    (k60 : PySem.W.keepIn K (.ref f60) = true)
    (a61 : PySem.W.nsIn K mainGlobals "load_store" = some (some (.ref f61)))
    (l61 : K.lookup f61 = some ⟨oc61, od61, .func (PySem.W.fnOf "load_store" "load_store" (defArgs s_load_store) (defBody s_load_store) (defScope s_load_store) .none kV61 dc61 pm61 an61 cd61 ct61), sl61⟩)
    (c61 : PySem.W.codeIn K cd61 "load_store" = true)
    (k61 : PySem.W.keepIn K (.ref f61) = true)
    (a62 : PySem.W.nsIn K mainGlobals "_law_make_store" = some (some (.ref f62)))
    (l62 : K.lookup f62 = some ⟨oc62, od62, .func (PySem.W.fnOf "_law_make_store" "_law_make_store" (defArgs s__law_make_store) (defBody s__law_make_store) (defScope s__law_make_store) .none kV62 dc62 pm62 an62 cd62 ct62), sl62⟩)
    (c62 : PySem.W.codeIn K cd62 "_law_make_store" = true)
    (k62 : PySem.W.keepIn K (.ref f62) = true)
    (a63 : PySem.W.nsIn K mainGlobals "_law_string" = some (some (.ref f63)))
    (l63 : K.lookup f63 = some ⟨oc63, od63, .func (PySem.W.fnOf "_law_string" "_law_string" (defArgs s__law_string) (defBody s__law_string) (defScope s__law_string) .none kV63 dc63 pm63 an63 cd63 ct63), sl63⟩)
    (c63 : PySem.W.codeIn K cd63 "_law_string" = true)
    (k63 : PySem.W.keepIn K (.ref f63) = true)
    (a64 : PySem.W.nsIn K mainGlobals "law" = some (some (.ref f64)))
    (l64 : K.lookup f64 = some ⟨oc64, od64, .func (PySem.W.fnOf "law" "law" (defArgs s_law) (defBody s_law) (defScope s_law) .none kV64 dc64 pm64 an64 cd64 ct64), sl64⟩)
    (c64 : PySem.W.codeIn K cd64 "law" = true)
    (k64 : PySem.W.keepIn K (.ref f64) = true)
    (zb_abs : PySem.W.nsIn K mainGlobals "abs" = some none)
    (zb_all : PySem.W.nsIn K mainGlobals "all" = some none)
    (zb_dict : PySem.W.nsIn K mainGlobals "dict" = some none)
    (zb_enumerate : PySem.W.nsIn K mainGlobals "enumerate" = some none)
    (zb_int : PySem.W.nsIn K mainGlobals "int" = some none)
    (zb_isinstance : PySem.W.nsIn K mainGlobals "isinstance" = some none)
    (zb_len : PySem.W.nsIn K mainGlobals "len" = some none)
    (zb_list : PySem.W.nsIn K mainGlobals "list" = some none)
    (zb_ord : PySem.W.nsIn K mainGlobals "ord" = some none)
    (zb_range : PySem.W.nsIn K mainGlobals "range" = some none)
    (zb_sorted : PySem.W.nsIn K mainGlobals "sorted" = some none)
    (zb_str : PySem.W.nsIn K mainGlobals "str" = some none)
    (zb_tuple : PySem.W.nsIn K mainGlobals "tuple" = some none)
    (zc_NEWLINE : PySem.W.nsIn K mainGlobals "NEWLINE" = some (some (.int 10 tk_NEWLINE)))
    (zc_SPACE : PySem.W.nsIn K mainGlobals "SPACE" = some (some (.int 32 tk_SPACE)))
    (zc_PERCENT : PySem.W.nsIn K mainGlobals "PERCENT" = some (some (.int 37 tk_PERCENT)))
    (zc_TILDE : PySem.W.nsIn K mainGlobals "TILDE" = some (some (.int 126 tk_TILDE)))
    (zc_SIGNS_BEFORE : PySem.W.nsIn K mainGlobals "SIGNS_BEFORE" = some (some (.str (Str.ofString " !\"#$") tk_SIGNS_BEFORE)))
    (zc_SIGNS_BEHIND : PySem.W.nsIn K mainGlobals "SIGNS_BEHIND" = some (some (.str (Str.ofString "&'()*+,-./0123456789:;<=>?@ABCDEFGHIJKLMNOPQRSTUVWXYZ[\\]^_`abcdefghijklmnopqrstuvwxyz{|}~") tk_SIGNS_BEHIND)))
    (zc_DIGIT_BITS : PySem.W.nsIn K mainGlobals "DIGIT_BITS" = some (some (.int 7 tk_DIGIT_BITS)))
    (zc_INDENT : PySem.W.nsIn K mainGlobals "INDENT" = some (some (.str (Str.ofString "  ") tk_INDENT)))
    (zc_SIGNS : PySem.W.nsIn K mainGlobals "SIGNS" = some (some (.str (Str.ofString "(),+") tk_SIGNS)))
    (zc_QUOTE : PySem.W.nsIn K mainGlobals "QUOTE" = some (some (.str (Str.ofString "\"") tk_QUOTE)))
    (zc_BACKSLASH : PySem.W.nsIn K mainGlobals "BACKSLASH" = some (some (.str (Str.ofString "\\") tk_BACKSLASH)))
    (zc_WORD_ENDS : PySem.W.nsIn K mainGlobals "WORD_ENDS" = some (some (.str (Str.ofString " \"(),+") tk_WORD_ENDS)))
    (zc_MOST_NAMES : PySem.W.nsIn K mainGlobals "MOST_NAMES" = some (some (.int 4 tk_MOST_NAMES)))
    (zc_NAME_LENGTH : PySem.W.nsIn K mainGlobals "NAME_LENGTH" = some (some (.int 12 tk_NAME_LENGTH)))
    (zc_NAME_SIGNS : PySem.W.nsIn K mainGlobals "NAME_SIGNS" = some (some (.str (Str.ofString "abcdefghijklmnopqrstuvwxyz0123456789_.") tk_NAME_SIGNS)))
    (zc_NOTHING : PySem.W.nsIn K mainGlobals "NOTHING" = some (some (.str (Str.ofString "-") tk_NOTHING)))
    (zc_YES : PySem.W.nsIn K mainGlobals "YES" = some (some (.str (Str.ofString "yes") tk_YES)))
    (zc_NO : PySem.W.nsIn K mainGlobals "NO" = some (some (.str (Str.ofString "no") tk_NO)))
    (zc_MOST_DIGITS_saving : PySem.W.nsIn K mainGlobals "MOST_DIGITS_saving" = some (some (.int 4 tk_MOST_DIGITS_saving)))
    (zd_ESCAPES : PySem.W.nsIn K mainGlobals "ESCAPES" = some (some (.ref D_ESCAPES)))
    (zl_ESCAPES : K.lookup D_ESCAPES = some ⟨.type "dict", none, .dict es_ESCAPES n_ESCAPES, #[]⟩)
    (zo_ESCAPES : (D_ESCAPES == sysModules) = false)
    (zk_ESCAPES : PySem.W.KeysLit w.params es_ESCAPES.toList)
    (ze_ESCAPES : Kn.EntsAre es_ESCAPES.toList escF)
    (hdig : PySem.W.nsIn K cStatics "sys.int_max_str_digits" = some none)
    (tyR : PySem.W.typeIn K (.ref C_Store) = some (.type "type"))
    (ccR : PySem.W.subIn K (.ref C_Store) (.ref C_Store) = some true)
    (clR : PySem.W.findIn K (.ref C_Store) "__class__" = some (some (.builtin "object.__class__")))
    (mrR : PySem.W.mroIn K C_Store (.type "object") = some true)
    : ∃ fd : FuncData, (∀ (s : Shared) (v : Value), BindsTo s fd ⟨[v], []⟩ [("script", v)]) ∧ ∀ base : Heap, K.In base → base.Ns mainGlobals mg → FnOk l.prog w K mg base CX0 10 fa fd ["script"] (sp_law K) := by
  cases hfa.symm.trans (PySem.W.mg_of X G a64)
  have T : Tx mg := ⟨PySem.W.mg_none_of X G zb_abs, PySem.W.mg_none_of X G zb_all, PySem.W.mg_none_of X G zb_dict, PySem.W.mg_none_of X G zb_enumerate, PySem.W.mg_none_of X G zb_int, PySem.W.mg_none_of X G zb_isinstance, PySem.W.mg_none_of X G zb_len, PySem.W.mg_none_of X G zb_list, PySem.W.mg_none_of X G zb_ord, PySem.W.mg_none_of X G zb_range, PySem.W.mg_none_of X G zb_sorted, PySem.W.mg_none_of X G zb_str, PySem.W.mg_none_of X G zb_tuple, ⟨_, PySem.W.mg_of X G zc_NEWLINE, ⟨_, rfl⟩⟩, ⟨_, PySem.W.mg_of X G zc_SPACE, ⟨_, rfl⟩⟩, ⟨_, PySem.W.mg_of X G zc_PERCENT, ⟨_, rfl⟩⟩, ⟨_, PySem.W.mg_of X G zc_TILDE, ⟨_, rfl⟩⟩, ⟨_, PySem.W.mg_of X G zc_SIGNS_BEFORE, ⟨_, rfl⟩⟩, ⟨_, PySem.W.mg_of X G zc_SIGNS_BEHIND, ⟨_, rfl⟩⟩, ⟨_, PySem.W.mg_of X G zc_DIGIT_BITS, ⟨_, rfl⟩⟩, ⟨_, PySem.W.mg_of X G zc_INDENT, ⟨_, rfl⟩⟩, ⟨_, PySem.W.mg_of X G zc_SIGNS, ⟨_, rfl⟩⟩, ⟨_, PySem.W.mg_of X G zc_QUOTE, ⟨_, rfl⟩⟩, ⟨_, PySem.W.mg_of X G zc_BACKSLASH, ⟨_, rfl⟩⟩, ⟨_, PySem.W.mg_of X G zc_WORD_ENDS, ⟨_, rfl⟩⟩, ⟨_, PySem.W.mg_of X G zc_MOST_NAMES, ⟨_, rfl⟩⟩, ⟨_, PySem.W.mg_of X G zc_NAME_LENGTH, ⟨_, rfl⟩⟩, ⟨_, PySem.W.mg_of X G zc_NAME_SIGNS, ⟨_, rfl⟩⟩, ⟨_, PySem.W.mg_of X G zc_NOTHING, ⟨_, rfl⟩⟩, ⟨_, PySem.W.mg_of X G zc_YES, ⟨_, rfl⟩⟩, ⟨_, PySem.W.mg_of X G zc_NO, ⟨_, rfl⟩⟩, ⟨_, PySem.W.mg_of X G zc_MOST_DIGITS_saving, ⟨_, rfl⟩⟩⟩
  have TC_Store : Tc_Store K C_Store := ⟨⟨pg_Store, hdi_Store, po_Store, sa_Store⟩, na_journal_Store, na__texts_Store, na__rows_Store⟩
  have TC_Record : Tc_Record K C_Record := ⟨⟨pg_Record, hdi_Record, po_Record, sa_Record⟩, na_outputs_Record, na_rule_key_Record, na_needs_Record, na_results_Record⟩
  have TC_Rule : Tc_Rule K C_Rule := ⟨⟨pg_Rule, hdi_Rule, po_Rule, sa_Rule⟩, na_outputs_Rule, na_inputs_Rule, na_sealed_Rule, na_body_Rule⟩
  have TC_Book : Tc_Book K C_Book := ⟨⟨pg_Book, hdi_Book, po_Book, sa_Book⟩, na_settings_Book, na_rules_Book, na_files_Book⟩
  have TC_Job : Tc_Job K C_Job := ⟨⟨pg_Job, hdi_Job, po_Job, sa_Job⟩, na_rule_Job, na_stem_Job, na_outputs_Job, na_inputs_Job⟩
  have TC_StoreReader : Tc_StoreReader K C_StoreReader := ⟨⟨pg_StoreReader, hdi_StoreReader, po_StoreReader, sa_StoreReader⟩, na_texts_StoreReader, na_rows_StoreReader, na_last_key_StoreReader, na_last_index_StoreReader, na_count_StoreReader⟩
  have x_MissingContent : Kn.Xc K X_MissingContent XB := ⟨⟨⟨nm_MissingContent, q_MissingContent, N_MissingContent_, bs_MissingContent, _, sn_MissingContent, sub_MissingContent, ab_MissingContent, col_MissingContent, dd_MissingContent, m0_MissingContent, m1_MissingContent, m2_MissingContent, m3_MissingContent, m5_MissingContent, xL_MissingContent, rfl⟩, xsa_MissingContent, xex_MissingContent, xty_MissingContent, xkc_MissingContent⟩, ⟨xga_MissingContent, xgg_MissingContent, xex_MissingContent, xhd_MissingContent, xcl_MissingContent, xgs, xtk, xmr_MissingContent⟩, ⟨xga_MissingContent, xgg_MissingContent, xex_MissingContent, xhd_MissingContent⟩, PySem.W.exm_ref xex_MissingContent xhd_MissingContent xty_MissingContent xcc_MissingContent, Kn.kit_ref bhd bty xkB_MissingContent xcc_MissingContent⟩
  have x_NoSuchRecord : Kn.Xc K X_NoSuchRecord XB := ⟨⟨⟨nm_NoSuchRecord, q_NoSuchRecord, N_NoSuchRecord_, bs_NoSuchRecord, _, sn_NoSuchRecord, sub_NoSuchRecord, ab_NoSuchRecord, col_NoSuchRecord, dd_NoSuchRecord, m0_NoSuchRecord, m1_NoSuchRecord, m2_NoSuchRecord, m3_NoSuchRecord, m5_NoSuchRecord, xL_NoSuchRecord, rfl⟩, xsa_NoSuchRecord, xex_NoSuchRecord, xty_NoSuchRecord, xkc_NoSuchRecord⟩, ⟨xga_NoSuchRecord, xgg_NoSuchRecord, xex_NoSuchRecord, xhd_NoSuchRecord, xcl_NoSuchRecord, xgs, xtk, xmr_NoSuchRecord⟩, ⟨xga_NoSuchRecord, xgg_NoSuchRecord, xex_NoSuchRecord, xhd_NoSuchRecord⟩, PySem.W.exm_ref xex_NoSuchRecord xhd_NoSuchRecord xty_NoSuchRecord xcc_NoSuchRecord, Kn.kit_ref bhd bty xkB_NoSuchRecord xcc_NoSuchRecord⟩
  have x_InvalidRecipe : Kn.Xc K X_InvalidRecipe XB := ⟨⟨⟨nm_InvalidRecipe, q_InvalidRecipe, N_InvalidRecipe_, bs_InvalidRecipe, _, sn_InvalidRecipe, sub_InvalidRecipe, ab_InvalidRecipe, col_InvalidRecipe, dd_InvalidRecipe, m0_InvalidRecipe, m1_InvalidRecipe, m2_InvalidRecipe, m3_InvalidRecipe, m5_InvalidRecipe, xL_InvalidRecipe, rfl⟩, xsa_InvalidRecipe, xex_InvalidRecipe, xty_InvalidRecipe, xkc_InvalidRecipe⟩, ⟨xga_InvalidRecipe, xgg_InvalidRecipe, xex_InvalidRecipe, xhd_InvalidRecipe, xcl_InvalidRecipe, xgs, xtk, xmr_InvalidRecipe⟩, ⟨xga_InvalidRecipe, xgg_InvalidRecipe, xex_InvalidRecipe, xhd_InvalidRecipe⟩, PySem.W.exm_ref xex_InvalidRecipe xhd_InvalidRecipe xty_InvalidRecipe xcc_InvalidRecipe, Kn.kit_ref bhd bty xkB_InvalidRecipe xcc_InvalidRecipe⟩
  let GX : Gx K mg := { c_BuildError := XB, g_BuildError := PySem.W.mg_of X G aB, b_BuildError := ⟨bsp, brd, bfi⟩, c_MissingContent := X_MissingContent, g_MissingContent := PySem.W.mg_of X G xa_MissingContent, x_MissingContent := x_MissingContent, n_MissingContent_key := xnkey_MissingContent, c_NoSuchRecord := X_NoSuchRecord, g_NoSuchRecord := PySem.W.mg_of X G xa_NoSuchRecord, x_NoSuchRecord := x_NoSuchRecord, n_NoSuchRecord_index := xnindex_NoSuchRecord, c_InvalidRecipe := X_InvalidRecipe, g_InvalidRecipe := PySem.W.mg_of X G xa_InvalidRecipe, x_InvalidRecipe := x_InvalidRecipe, n_InvalidRecipe_path := xnpath_InvalidRecipe, n_InvalidRecipe_line := xnline_InvalidRecipe, n_InvalidRecipe_column := xncolumn_InvalidRecipe, n_InvalidRecipe_reason := xnreason_InvalidRecipe }
  have F0 := fun_mk (st := s_MissingContent___init__) l0 c0 k0
  have b0 := F0.binds (ps := ["self", "key"]) fun _ _ _ _ _ _ us hl => match us, hl with | [_, _], _ => rfl
  have F1 := fun_mk (st := s_NoSuchRecord___init__) l1 c1 k1
  have b1 := F1.binds (ps := ["self", "index"]) fun _ _ _ _ _ _ us hl => match us, hl with | [_, _], _ => rfl
  have F2 := fun_mk (st := s_InvalidRecipe___init__) l2 c2 k2
  have b2 := F2.binds (ps := ["self", "path", "line", "column", "reason"]) fun _ _ _ _ _ _ us hl => match us, hl with | [_, _, _, _, _], _ => rfl
  have F3 := fun_mk (st := s__is_code) l3 c3 k3
  have b3 := F3.binds (ps := ["code"]) fun _ _ _ _ _ _ us hl => match us, hl with | [_], _ => rfl
  have F4 := fun_mk (st := s_is_text) l4 c4 k4
  have b4 := F4.binds (ps := ["value"]) fun _ _ _ _ _ _ us hl => match us, hl with | [_], _ => rfl
  have F5 := fun_mk (st := s_content_key) l5 c5 k5
  have b5 := F5.binds (ps := ["text"]) fun _ _ _ _ _ _ us hl => match us, hl with | [_], _ => rfl
  have F6 := fun_mk (st := s__codes) l6 c6 k6
  have b6 := F6.binds (ps := ["key"]) fun _ _ _ _ _ _ us hl => match us, hl with | [_], _ => rfl
  have F7 := fun_mk (st := s__sign) l7 c7 k7
  have b7 := F7.binds (ps := ["code"]) fun _ _ _ _ _ _ us hl => match us, hl with | [_], _ => rfl
  have F8 := fun_mk (st := s_key_text) l8 c8 k8
  have b8 := F8.binds (ps := ["key"]) fun _ _ _ _ _ _ us hl => match us, hl with | [_], _ => rfl
  have F9 := fun_mk (st := s_format_string) l9 c9 k9
  have b9 := F9.binds (ps := ["text"]) fun _ _ _ _ _ _ us hl => match us, hl with | [_], _ => rfl
  have F10 := fun_mk (st := s__first_line) l10 c10 k10
  have b10 := F10.binds (ps := ["statement"]) fun _ _ _ _ _ _ us hl => match us, hl with | [_], _ => rfl
  have F11 := fun_mk (st := s__block_lines) l11 c11 k11
  have b11 := F11.binds (ps := ["statement", "indent"]) fun _ _ _ _ _ _ us hl => match us, hl with | [_, _], _ => rfl
  have F12 := fun_mk (st := s__body_lines) l12 c12 k12
  have b12 := F12.binds (ps := ["body", "indent"]) fun _ _ _ _ _ _ us hl => match us, hl with | [_, _], _ => rfl
  have F13 := fun_mk (st := s_Rule___init__) l13 c13 k13
  have b13 := F13.binds (ps := ["self", "outputs", "inputs", "sealed", "body"]) fun _ _ _ _ _ _ us hl => match us, hl with | [_, _, _, _, _], _ => rfl
  have F14 := fun_mk (st := s_Book___init__) l14 c14 k14
  have b14 := F14.binds (ps := ["self"]) fun _ _ _ _ _ _ us hl => match us, hl with | [_], _ => rfl
  have F15 := fun_mk (st := s_Job___init__) l15 c15 k15
  have b15 := F15.binds (ps := ["self", "rule", "stem", "outputs", "inputs"]) fun _ _ _ _ _ _ us hl => match us, hl with | [_, _, _, _, _], _ => rfl
  have F16 := fun_mk (st := s_format_rule) l16 c16 k16
  have b16 := F16.binds (ps := ["rule"]) fun _ _ _ _ _ _ us hl => match us, hl with | [_], _ => rfl
  have F17 := fun_mk (st := s__is_name) l17 c17 k17
  have b17 := F17.binds (ps := ["name"]) fun _ _ _ _ _ _ us hl => match us, hl with | [_], _ => rfl
  have F18 := fun_mk (st := s_is_path) l18 c18 k18
  have b18 := F18.binds (ps := ["value"]) fun _ _ _ _ _ _ us hl => match us, hl with | [_], _ => rfl
  have F19 := fun_mk (st := s_fill) l19 c19 k19
  have b19 := F19.binds (ps := ["pattern", "stem"]) fun _ _ _ _ _ _ us hl => match us, hl with | [_, _], _ => rfl
  have F20 := fun_mk (st := s_make_job) l20 c20 k20
  have b20 := F20.binds (ps := ["book", "rule", "stem"]) fun _ _ _ _ _ _ us hl => match us, hl with | [_, _, _], _ => rfl
  have F21 := fun_mk (st := s_rule_text) l21 c21 k21
  have b21 := F21.binds (ps := ["book", "job"]) fun _ _ _ _ _ _ us hl => match us, hl with | [_, _], _ => rfl
  have F22 := fun_mk (st := s_rule_key) l22 c22 k22
  have b22 := F22.binds (ps := ["book", "job"]) fun _ _ _ _ _ _ us hl => match us, hl with | [_, _], _ => rfl
  have F23 := fun_mk (st := s__skip_spaces) l23 c23 k23
  have b23 := F23.binds (ps := ["line", "start"]) fun _ _ _ _ _ _ us hl => match us, hl with | [_, _], _ => rfl
  have F24 := fun_mk (st := s__string_part) l24 c24 k24
  have b24 := F24.binds (ps := ["path", "number", "line", "at"]) fun _ _ _ _ _ _ us hl => match us, hl with | [_, _, _, _], _ => rfl
  have F25 := fun_mk (st := s__string) l25 c25 k25
  have b25 := F25.binds (ps := ["path", "number", "line", "start"]) fun _ _ _ _ _ _ us hl => match us, hl with | [_, _, _, _], _ => rfl
  have F26 := fun_mk (st := s__token) l26 c26 k26
  have b26 := F26.binds (ps := ["path", "number", "line", "start"]) fun _ _ _ _ _ _ us hl => match us, hl with | [_, _, _, _], _ => rfl
  have F27 := fun_mk (st := s_scan_line) l27 c27 k27
  have b27 := F27.binds (ps := ["path", "number", "line"]) fun _ _ _ _ _ _ us hl => match us, hl with | [_, _, _], _ => rfl
  have F28 := fun_mk (st := s_lines_of) l28 c28 k28
  have b28 := F28.binds (ps := ["text"]) fun _ _ _ _ _ _ us hl => match us, hl with | [_], _ => rfl
  have F29 := fun_mk (st := s_Record___init__) l29 c29 k29
  have b29 := F29.binds (ps := ["self", "outputs", "rule_key", "needs", "results"]) fun _ _ _ _ _ _ us hl => match us, hl with | [_, _, _, _, _], _ => rfl
  have F30 := fun_mk (st := s_question) l30 c30 k30
  have b30 := F30.binds (ps := ["need"]) fun _ _ _ _ _ _ us hl => match us, hl with | [_], _ => rfl
  have F31 := fun_mk (st := s__format_seen) l31 c31 k31
  have b31 := F31.binds (ps := ["seen"]) fun _ _ _ _ _ _ us hl => match us, hl with | [_], _ => rfl
  have F32 := fun_mk (st := s__format_need) l32 c32 k32
  have b32 := F32.binds (ps := ["need"]) fun _ _ _ _ _ _ us hl => match us, hl with | [_], _ => rfl
  have F33 := fun_mk (st := s_format_record) l33 c33 k33
  have b33 := F33.binds (ps := ["record"]) fun _ _ _ _ _ _ us hl => match us, hl with | [_], _ => rfl
  have F34 := fun_mk (st := s__law_cell) l34 c34 k34
  have b34 := F34.binds (ps := ["script", "k"]) fun _ _ _ _ _ _ us hl => match us, hl with | [_, _], _ => rfl
  have F35 : FunD K "__init__" "Store.__init__" (defArgs s_Store___init__) (defBody s_Store___init__) (defScope s_Store___init__) [.non] [] f35 _ := ⟨⟨_, _, _, _, _, _, _, _, _, _, rfl, l35, c35, Kn.dfl_one dl35 rfl, .inl rfl⟩, k35⟩
  obtain ⟨ds35, rd35, b35⟩ := F35.binds1 (ps := ["self", "journal"]) 1 0 (by simp) rfl (fun _ _ _ _ _ _ _ us its hl hi => match us, hl, its, hi with | [_], _, [_], _ => ⟨_, rfl, rfl⟩)
  have F36 := fun_mk (st := s_Store_has_content) l36 c36 k36
  have b36 := F36.binds (ps := ["self", "key"]) fun _ _ _ _ _ _ us hl => match us, hl with | [_, _], _ => rfl
  have F37 := fun_mk (st := s_Store_put_content) l37 c37 k37
  have b37 := F37.binds (ps := ["self", "text"]) fun _ _ _ _ _ _ us hl => match us, hl with | [_, _], _ => rfl
  have F38 := fun_mk (st := s_Store_add_record) l38 c38 k38
  have b38 := F38.binds (ps := ["self", "record"]) fun _ _ _ _ _ _ us hl => match us, hl with | [_, _], _ => rfl
  have F39 := fun_mk (st := s_Store__check_content) l39 c39 k39
  have b39 := F39.binds (ps := ["self", "key"]) fun _ _ _ _ _ _ us hl => match us, hl with | [_, _], _ => rfl
  have F40 := fun_mk (st := s_Store_lose_content) l40 c40 k40
  have b40 := F40.binds (ps := ["self", "key"]) fun _ _ _ _ _ _ us hl => match us, hl with | [_, _], _ => rfl
  have F41 := fun_mk (st := s_Store_damage_content) l41 c41 k41
  have b41 := F41.binds (ps := ["self", "key", "text"]) fun _ _ _ _ _ _ us hl => match us, hl with | [_, _, _], _ => rfl
  have F42 := fun_mk (st := s_Store__check_kept) l42 c42 k42
  have b42 := F42.binds (ps := ["self", "index"]) fun _ _ _ _ _ _ us hl => match us, hl with | [_, _], _ => rfl
  have F43 := fun_mk (st := s_Store_lose_record) l43 c43 k43
  have b43 := F43.binds (ps := ["self", "index"]) fun _ _ _ _ _ _ us hl => match us, hl with | [_, _], _ => rfl
  have F44 := fun_mk (st := s_Store_damage_record) l44 c44 k44
  have b44 := F44.binds (ps := ["self", "index", "line"]) fun _ _ _ _ _ _ us hl => match us, hl with | [_, _, _], _ => rfl
  have F45 := fun_mk (st := s_Store_record_count) l45 c45 k45
  have b45 := F45.binds (ps := ["self"]) fun _ _ _ _ _ _ us hl => match us, hl with | [_], _ => rfl
  have F46 := fun_mk (st := s_Store_kept_records) l46 c46 k46
  have b46 := F46.binds (ps := ["self"]) fun _ _ _ _ _ _ us hl => match us, hl with | [_], _ => rfl
  have F47 := fun_mk (st := s_Store_kept_texts) l47 c47 k47
  have b47 := F47.binds (ps := ["self"]) fun _ _ _ _ _ _ us hl => match us, hl with | [_], _ => rfl
  have F48 := fun_mk (st := s_Store_content_keys) l48 c48 k48
  have b48 := F48.binds (ps := ["self"]) fun _ _ _ _ _ _ us hl => match us, hl with | [_], _ => rfl
  have F49 := fun_mk (st := s_Store_fill_from) l49 c49 k49
  have b49 := F49.binds (ps := ["self", "texts", "rows"]) fun _ _ _ _ _ _ us hl => match us, hl with | [_, _, _], _ => rfl
  have F50 := fun_mk (st := s__content_line) l50 c50 k50
  have b50 := F50.binds (ps := ["right", "kept"]) fun _ _ _ _ _ _ us hl => match us, hl with | [_, _], _ => rfl
  have F51 := fun_mk (st := s__row_line) l51 c51 k51
  have b51 := F51.binds (ps := ["index", "right", "kept"]) fun _ _ _ _ _ _ us hl => match us, hl with | [_, _, _], _ => rfl
  have F52 := fun_mk (st := s__count_line) l52 c52 k52
  have b52 := F52.binds (ps := ["count"]) fun _ _ _ _ _ _ us hl => match us, hl with | [_], _ => rfl
  have F53 := fun_mk (st := s__parts) l53 c53 k53
  have b53 := F53.binds (ps := ["line"]) fun _ _ _ _ _ _ us hl => match us, hl with | [_], _ => rfl
  have F54 := fun_mk (st := s__is_number) l54 c54 k54
  have b54 := F54.binds (ps := ["word"]) fun _ _ _ _ _ _ us hl => match us, hl with | [_], _ => rfl
  have F55 := fun_mk (st := s_StoreReader___init__) l55 c55 k55
  have b55 := F55.binds (ps := ["self"]) fun _ _ _ _ _ _ us hl => match us, hl with | [_], _ => rfl
  have F56 := fun_mk (st := s_StoreReader__read_content) l56 c56 k56
  have b56 := F56.binds (ps := ["self", "right", "kept"]) fun _ _ _ _ _ _ us hl => match us, hl with | [_, _, _], _ => rfl
  have F57 := fun_mk (st := s_StoreReader__read_record) l57 c57 k57
  have b57 := F57.binds (ps := ["self", "index", "right", "kept"]) fun _ _ _ _ _ _ us hl => match us, hl with | [_, _, _, _], _ => rfl
  have F58 := fun_mk (st := s_StoreReader__read_count) l58 c58 k58
  have b58 := F58.binds (ps := ["self", "count"]) fun _ _ _ _ _ _ us hl => match us, hl with | [_, _], _ => rfl
  have F59 := fun_mk (st := s_StoreReader_read) l59 c59 k59
  have b59 := F59.binds (ps := ["self", "line"]) fun _ _ _ _ _ _ us hl => match us, hl with | [_, _], _ => rfl
  have F60 := fun_mk (st := s_save_store) l60 c60 k60
  have b60 := F60.binds (ps := ["store"]) fun _ _ _ _ _ _ us hl => match us, hl with | [_], _ => rfl
  have F61 := fun_mk (st := s_load_store) l61 c61 k61
  have b61 := F61.binds (ps := ["text"]) fun _ _ _ _ _ _ us hl => match us, hl with | [_], _ => rfl
  have F62 := fun_mk (st := s__law_make_store) l62 c62 k62
  have b62 := F62.binds (ps := ["script", "at", "book", "jobs"]) fun _ _ _ _ _ _ us hl => match us, hl with | [_, _, _, _], _ => rfl
  have F63 := fun_mk (st := s__law_string) l63 c63 k63
  have b63 := F63.binds (ps := ["text"]) fun _ _ _ _ _ _ us hl => match us, hl with | [_], _ => rfl
  have F64 := fun_mk (st := s_law) l64 c64 k64
  have b64 := F64.binds (ps := ["script"]) fun _ _ _ _ _ _ us hl => match us, hl with | [_], _ => rfl
  have W_ESCAPES : Kn.WD K w mg "ESCAPES" D_ESCAPES escF := Kn.wd_of (PySem.W.mg_of X G zd_ESCAPES) zl_ESCAPES zo_ESCAPES zk_ESCAPES ze_ESCAPES
  refine ⟨PySem.W.fnOf "law" "law" (defArgs s_law) (defBody s_law) (defScope s_law) .none kV64 dc64 pm64 an64 cd64 ct64, fun s v => .of_eq rfl, fun base _ _ => ?_⟩
  have Z_MissingContent : Kn.Xk l.prog w K mg base 1 "MissingContent" GX.c_MissingContent (sp_I1v "key" K) := ⟨x_MissingContent.oe, _, _, _, a0, i0, ok_MissingContent___init__ F0 T GX TC_Store TC_Record TC_Rule TC_Book TC_Job TC_StoreReader, b0, PySem.W.mg_of X G xa_MissingContent⟩
  have Z_NoSuchRecord : Kn.Xk l.prog w K mg base 1 "NoSuchRecord" GX.c_NoSuchRecord (sp_I1z "index" K) := ⟨x_NoSuchRecord.oe, _, _, _, a1, i1, ok_NoSuchRecord___init__ F1 T GX TC_Store TC_Record TC_Rule TC_Book TC_Job TC_StoreReader, b1, PySem.W.mg_of X G xa_NoSuchRecord⟩
  have Z_InvalidRecipe : Kn.Xk l.prog w K mg base 1 "InvalidRecipe" GX.c_InvalidRecipe (sp_I4 K) := ⟨x_InvalidRecipe.oe, _, _, _, a2, i2, ok_InvalidRecipe___init__ F2 T GX TC_Store TC_Record TC_Rule TC_Book TC_Job TC_StoreReader, b2, PySem.W.mg_of X G xa_InvalidRecipe⟩
  have C__is_code : Kn.Cl l.prog w K mg base 1 "_is_code" (sp__is_code K) := Kn.cl_of (ok__is_code F3 T GX TC_Store TC_Record TC_Rule TC_Book TC_Job TC_StoreReader) F3 (PySem.W.mg_of X G a3) b3
  have C_is_text : Kn.Cl l.prog w K mg base 2 "is_text" (sp_is_text K) := Kn.cl_of (ok_is_text F4 T GX TC_Store TC_Record TC_Rule TC_Book TC_Job TC_StoreReader C__is_code) F4 (PySem.W.mg_of X G a4) b4
  have C_content_key : Kn.Cl l.prog w K mg base 1 "content_key" (sp_content_key K) := Kn.cl_of (ok_content_key F5 T GX TC_Store TC_Record TC_Rule TC_Book TC_Job TC_StoreReader hdig) F5 (PySem.W.mg_of X G a5) b5
  have C__codes : Kn.Cl l.prog w K mg base 1 "_codes" (sp__codes K) := Kn.cl_of (ok__codes F6 T GX TC_Store TC_Record TC_Rule TC_Book TC_Job TC_StoreReader hdig) F6 (PySem.W.mg_of X G a6) b6
  have C__sign : Kn.Cl l.prog w K mg base 1 "_sign" (sp__sign K) := Kn.cl_of (ok__sign F7 T GX TC_Store TC_Record TC_Rule TC_Book TC_Job TC_StoreReader) F7 (PySem.W.mg_of X G a7) b7
  have C_key_text : Kn.Cl l.prog w K mg base 2 "key_text" (sp_key_text K) := Kn.cl_of (ok_key_text F8 T GX TC_Store TC_Record TC_Rule TC_Book TC_Job TC_StoreReader C__codes C__is_code C__sign) F8 (PySem.W.mg_of X G a8) b8
  have C_format_string : Kn.Cl l.prog w K mg base 1 "format_string" (sp_format_string K) := Kn.cl_of (ok_format_string F9 T GX TC_Store TC_Record TC_Rule TC_Book TC_Job TC_StoreReader) F9 (PySem.W.mg_of X G a9) b9
  have C__first_line : Kn.Cl l.prog w K mg base 1 "_first_line" (sp__first_line K) := Kn.cl_of (ok__first_line F10 T GX TC_Store TC_Record TC_Rule TC_Book TC_Job TC_StoreReader) F10 (PySem.W.mg_of X G a10) b10
  have C__block_lines : Kn.Cl l.prog w K mg base 1 "_block_lines" (sp__block_lines K) := Kn.cl_of (ok__block_lines F11 T GX TC_Store TC_Record TC_Rule TC_Book TC_Job TC_StoreReader) F11 (PySem.W.mg_of X G a11) b11
  have C__body_lines : Kn.Cl l.prog w K mg base 2 "_body_lines" (sp__body_lines K) := Kn.cl_of (ok__body_lines F12 T GX TC_Store TC_Record TC_Rule TC_Book TC_Job TC_StoreReader C__first_line C__block_lines) F12 (PySem.W.mg_of X G a12) b12
  have M_Rule : Kn.Mkr l.prog w K mg base 1 "Rule" C_Rule (sp_Rule___init__ C_Rule K) := ⟨_, _, _, ⟨mk_Rule, a13, i13, kc_Rule⟩, ok_Rule___init__ F13 T GX TC_Store TC_Record TC_Rule TC_Book TC_Job TC_StoreReader, PySem.W.mg_of X G aC_Rule, b13⟩
  have M_Book : Kn.Mkr l.prog w K mg base 1 "Book" C_Book (sp_Book___init__ C_Book K) := ⟨_, _, _, ⟨mk_Book, a14, i14, kc_Book⟩, ok_Book___init__ F14 T GX TC_Store TC_Record TC_Rule TC_Book TC_Job TC_StoreReader, PySem.W.mg_of X G aC_Book, b14⟩
  have M_Job : Kn.Mkr l.prog w K mg base 1 "Job" C_Job (sp_Job___init__ C_Job K) := ⟨_, _, _, ⟨mk_Job, a15, i15, kc_Job⟩, ok_Job___init__ F15 T GX TC_Store TC_Record TC_Rule TC_Book TC_Job TC_StoreReader, PySem.W.mg_of X G aC_Job, b15⟩
  have C_format_rule : Kn.Cl l.prog w K mg base 3 "format_rule" (sp_format_rule C_Rule K) := Kn.cl_of (ok_format_rule F16 T GX TC_Store TC_Record TC_Rule TC_Book TC_Job TC_StoreReader C__body_lines) F16 (PySem.W.mg_of X G a16) b16
  have C__is_name : Kn.Cl l.prog w K mg base 1 "_is_name" (sp__is_name K) := Kn.cl_of (ok__is_name F17 T GX TC_Store TC_Record TC_Rule TC_Book TC_Job TC_StoreReader) F17 (PySem.W.mg_of X G a17) b17
  have C_is_path : Kn.Cl l.prog w K mg base 2 "is_path" (sp_is_path K) := Kn.cl_of (ok_is_path F18 T GX TC_Store TC_Record TC_Rule TC_Book TC_Job TC_StoreReader C__is_name) F18 (PySem.W.mg_of X G a18) b18
  have C_fill : Kn.Cl l.prog w K mg base 3 "fill" (sp_fill K) := Kn.cl_of (ok_fill F19 T GX TC_Store TC_Record TC_Rule TC_Book TC_Job TC_StoreReader C_is_path) F19 (PySem.W.mg_of X G a19) b19
  have C_make_job : Kn.Cl l.prog w K mg base 4 "make_job" (sp_make_job C_Rule C_Book C_Job K) := Kn.cl_of (ok_make_job F20 T GX TC_Store TC_Record TC_Rule TC_Book TC_Job TC_StoreReader C_fill M_Job) F20 (PySem.W.mg_of X G a20) b20
  have C_rule_text : Kn.Cl l.prog w K mg base 4 "rule_text" (sp_rule_text C_Rule C_Book C_Job K) := Kn.cl_of (ok_rule_text F21 T GX TC_Store TC_Record TC_Rule TC_Book TC_Job TC_StoreReader C_format_rule) F21 (PySem.W.mg_of X G a21) b21
  have C_rule_key : Kn.Cl l.prog w K mg base 5 "rule_key" (sp_rule_key C_Rule C_Book C_Job K) := Kn.cl_of (ok_rule_key F22 T GX TC_Store TC_Record TC_Rule TC_Book TC_Job TC_StoreReader C_rule_text C_content_key) F22 (PySem.W.mg_of X G a22) b22
  have C__skip_spaces : Kn.Cl l.prog w K mg base 1 "_skip_spaces" (sp__skip_spaces K) := Kn.cl_of (ok__skip_spaces F23 T GX TC_Store TC_Record TC_Rule TC_Book TC_Job TC_StoreReader) F23 (PySem.W.mg_of X G a23) b23
  have C__string_part : Kn.ClX l.prog w K mg base 3 "_string_part" (sp__string_part GX) := Kn.clX_of (ok__string_part F24 T GX TC_Store TC_Record TC_Rule TC_Book TC_Job TC_StoreReader Z_InvalidRecipe W_ESCAPES) F24 (PySem.W.mg_of X G a24) b24
  have C__string : Kn.ClX l.prog w K mg base 4 "_string" (sp__string GX) := Kn.clX_of (ok__string F25 T GX TC_Store TC_Record TC_Rule TC_Book TC_Job TC_StoreReader C__string_part Z_InvalidRecipe) F25 (PySem.W.mg_of X G a25) b25
  have C__token : Kn.ClX l.prog w K mg base 5 "_token" (sp__token GX) := Kn.clX_of (ok__token F26 T GX TC_Store TC_Record TC_Rule TC_Book TC_Job TC_StoreReader C__string) F26 (PySem.W.mg_of X G a26) b26
  have C_scan_line : Kn.ClX l.prog w K mg base 6 "scan_line" (sp_scan_line GX) := Kn.clX_of (ok_scan_line F27 T GX TC_Store TC_Record TC_Rule TC_Book TC_Job TC_StoreReader C__skip_spaces C__token) F27 (PySem.W.mg_of X G a27) b27
  have C_lines_of : Kn.Cl l.prog w K mg base 1 "lines_of" (sp_lines_of K) := Kn.cl_of (ok_lines_of F28 T GX TC_Store TC_Record TC_Rule TC_Book TC_Job TC_StoreReader) F28 (PySem.W.mg_of X G a28) b28
  have M_Record : Kn.Mkr l.prog w K mg base 1 "Record" C_Record (sp_Record___init__ C_Record K) := ⟨_, _, _, ⟨mk_Record, a29, i29, kc_Record⟩, ok_Record___init__ F29 T GX TC_Store TC_Record TC_Rule TC_Book TC_Job TC_StoreReader, PySem.W.mg_of X G aC_Record, b29⟩
  have C_question : Kn.Cl l.prog w K mg base 1 "question" (sp_question K) := Kn.cl_of (ok_question F30 T GX TC_Store TC_Record TC_Rule TC_Book TC_Job TC_StoreReader) F30 (PySem.W.mg_of X G a30) b30
  have C__format_seen : Kn.Cl l.prog w K mg base 1 "_format_seen" (sp__format_seen K) := Kn.cl_of (ok__format_seen F31 T GX TC_Store TC_Record TC_Rule TC_Book TC_Job TC_StoreReader) F31 (PySem.W.mg_of X G a31) b31
  have C__format_need : Kn.Cl l.prog w K mg base 2 "_format_need" (sp__format_need K) := Kn.cl_of (ok__format_need F32 T GX TC_Store TC_Record TC_Rule TC_Book TC_Job TC_StoreReader C_question C__format_seen) F32 (PySem.W.mg_of X G a32) b32
  have C_format_record : Kn.Cl l.prog w K mg base 3 "format_record" (sp_format_record C_Record K) := Kn.cl_of (ok_format_record F33 T GX TC_Store TC_Record TC_Rule TC_Book TC_Job TC_StoreReader C__format_need) F33 (PySem.W.mg_of X G a33) b33
  have C__law_cell : Kn.Cl l.prog w K mg base 1 "_law_cell" (sp__law_cell K) := Kn.cl_of (ok__law_cell F34 T GX TC_Store TC_Record TC_Rule TC_Book TC_Job TC_StoreReader) F34 (PySem.W.mg_of X G a34) b34
  have M_Store : Kn.MkrD l.prog w K mg base 1 "Store" C_Store (sp_Store___init__ C_Store K) [.non] := ⟨_, _, _, _, ⟨mk_Store, a35, i35, kc_Store⟩, ok_Store___init__ F35 T GX TC_Store TC_Record TC_Rule TC_Book TC_Job TC_StoreReader, PySem.W.mg_of X G aC_Store, b35, rd35⟩
  have M_Store_has_content : Kn.Mt l.prog w K mg base 2 C_Store "has_content" (sp_Store_has_content C_Store C_Record K) := ⟨_, _, _, TC_Store.cl, ⟨a36, i36, k36⟩, ok_Store_has_content F36 T GX TC_Store TC_Record TC_Rule TC_Book TC_Job TC_StoreReader C_content_key, b36⟩
  have M_Store_put_content : Kn.Mt l.prog w K mg base 3 C_Store "put_content" (sp_Store_put_content C_Store C_Record K) := ⟨_, _, _, TC_Store.cl, ⟨a37, i37, k37⟩, ok_Store_put_content F37 T GX TC_Store TC_Record TC_Rule TC_Book TC_Job TC_StoreReader C_content_key M_Store_has_content, b37⟩
  have M_Store_add_record : Kn.Mt l.prog w K mg base 4 C_Store "add_record" (sp_Store_add_record C_Store C_Record K) := ⟨_, _, _, TC_Store.cl, ⟨a38, i38, k38⟩, ok_Store_add_record F38 T GX TC_Store TC_Record TC_Rule TC_Book TC_Job TC_StoreReader C_format_record C_content_key, b38⟩
  have M_Store__check_content : Kn.MtX l.prog w K mg base 3 C_Store "_check_content" (sp_Store__check_content C_Store C_Record GX) := ⟨_, _, _, TC_Store.cl, ⟨a39, i39, k39⟩, ok_Store__check_content F39 T GX TC_Store TC_Record TC_Rule TC_Book TC_Job TC_StoreReader Z_MissingContent, b39⟩
  have M_Store_lose_content : Kn.MtX l.prog w K mg base 4 C_Store "lose_content" (sp_Store_lose_content C_Store C_Record GX) := ⟨_, _, _, TC_Store.cl, ⟨a40, i40, k40⟩, ok_Store_lose_content F40 T GX TC_Store TC_Record TC_Rule TC_Book TC_Job TC_StoreReader M_Store__check_content, b40⟩
  have M_Store_damage_content : Kn.MtX l.prog w K mg base 4 C_Store "damage_content" (sp_Store_damage_content C_Store C_Record GX) := ⟨_, _, _, TC_Store.cl, ⟨a41, i41, k41⟩, ok_Store_damage_content F41 T GX TC_Store TC_Record TC_Rule TC_Book TC_Job TC_StoreReader M_Store__check_content, b41⟩
  have M_Store__check_kept : Kn.MtX l.prog w K mg base 3 C_Store "_check_kept" (sp_Store__check_kept C_Store C_Record GX) := ⟨_, _, _, TC_Store.cl, ⟨a42, i42, k42⟩, ok_Store__check_kept F42 T GX TC_Store TC_Record TC_Rule TC_Book TC_Job TC_StoreReader Z_NoSuchRecord, b42⟩
  have M_Store_lose_record : Kn.MtX l.prog w K mg base 4 C_Store "lose_record" (sp_Store_lose_record C_Store C_Record GX) := ⟨_, _, _, TC_Store.cl, ⟨a43, i43, k43⟩, ok_Store_lose_record F43 T GX TC_Store TC_Record TC_Rule TC_Book TC_Job TC_StoreReader M_Store__check_kept, b43⟩
  have M_Store_damage_record : Kn.MtX l.prog w K mg base 4 C_Store "damage_record" (sp_Store_damage_record C_Store C_Record GX) := ⟨_, _, _, TC_Store.cl, ⟨a44, i44, k44⟩, ok_Store_damage_record F44 T GX TC_Store TC_Record TC_Rule TC_Book TC_Job TC_StoreReader M_Store__check_kept, b44⟩
  have M_Store_record_count : Kn.Mt l.prog w K mg base 1 C_Store "record_count" (sp_Store_record_count C_Store C_Record K) := ⟨_, _, _, TC_Store.cl, ⟨a45, i45, k45⟩, ok_Store_record_count F45 T GX TC_Store TC_Record TC_Rule TC_Book TC_Job TC_StoreReader, b45⟩
  have M_Store_kept_records : Kn.Mt l.prog w K mg base 1 C_Store "kept_records" (sp_Store_kept_records C_Store C_Record K) := ⟨_, _, _, TC_Store.cl, ⟨a46, i46, k46⟩, ok_Store_kept_records F46 T GX TC_Store TC_Record TC_Rule TC_Book TC_Job TC_StoreReader, b46⟩
  have M_Store_kept_texts : Kn.Mt l.prog w K mg base 1 C_Store "kept_texts" (sp_Store_kept_texts C_Store C_Record K) := ⟨_, _, _, TC_Store.cl, ⟨a47, i47, k47⟩, ok_Store_kept_texts F47 T GX TC_Store TC_Record TC_Rule TC_Book TC_Job TC_StoreReader, b47⟩
  have M_Store_content_keys : Kn.Mt l.prog w K mg base 1 C_Store "content_keys" (sp_Store_content_keys C_Store C_Record K) := ⟨_, _, _, TC_Store.cl, ⟨a48, i48, k48⟩, ok_Store_content_keys F48 T GX TC_Store TC_Record TC_Rule TC_Book TC_Job TC_StoreReader, b48⟩
  have M_Store_fill_from : Kn.Mt l.prog w K mg base 1 C_Store "fill_from" (sp_Store_fill_from C_Store C_Record K) := ⟨_, _, _, TC_Store.cl, ⟨a49, i49, k49⟩, ok_Store_fill_from F49 T GX TC_Store TC_Record TC_Rule TC_Book TC_Job TC_StoreReader, b49⟩
  have C__content_line : Kn.Cl l.prog w K mg base 2 "_content_line" (sp__content_line K) := Kn.cl_of (ok__content_line F50 T GX TC_Store TC_Record TC_Rule TC_Book TC_Job TC_StoreReader C_format_string) F50 (PySem.W.mg_of X G a50) b50
  have C__row_line : Kn.Cl l.prog w K mg base 2 "_row_line" (sp__row_line K) := Kn.cl_of (ok__row_line F51 T GX TC_Store TC_Record TC_Rule TC_Book TC_Job TC_StoreReader C_format_string) F51 (PySem.W.mg_of X G a51) b51
  have C__count_line : Kn.Cl l.prog w K mg base 1 "_count_line" (sp__count_line K) := Kn.cl_of (ok__count_line F52 T GX TC_Store TC_Record TC_Rule TC_Book TC_Job TC_StoreReader) F52 (PySem.W.mg_of X G a52) b52
  have C__parts : Kn.Cl l.prog w K mg base 7 "_parts" (sp__parts GX) := Kn.cl_of (ok__parts F53 T GX TC_Store TC_Record TC_Rule TC_Book TC_Job TC_StoreReader C_scan_line) F53 (PySem.W.mg_of X G a53) b53
  have C__is_number : Kn.Cl l.prog w K mg base 1 "is_number_saving" (sp__is_number K) := ⟨_, _, _, ok__is_number F54 T GX TC_Store TC_Record TC_Rule TC_Book TC_Job TC_StoreReader, (PySem.W.mg_of X G a54), F54.kp, b54⟩
  have M_StoreReader : Kn.Mkr l.prog w K mg base 1 "StoreReader" C_StoreReader (sp_StoreReader___init__ C_StoreReader K) := ⟨_, _, _, ⟨mk_StoreReader, a55, i55, kc_StoreReader⟩, ok_StoreReader___init__ F55 T GX TC_Store TC_Record TC_Rule TC_Book TC_Job TC_StoreReader, PySem.W.mg_of X G aC_StoreReader, b55⟩
  have M_StoreReader__read_content : Kn.Mt l.prog w K mg base 3 C_StoreReader "_read_content" (sp_StoreReader__read_content C_StoreReader K) := ⟨_, _, _, TC_StoreReader.cl, ⟨a56, i56, k56⟩, ok_StoreReader__read_content F56 T GX TC_Store TC_Record TC_Rule TC_Book TC_Job TC_StoreReader C_is_text C_content_key, b56⟩
  have M_StoreReader__read_record : Kn.Mt l.prog w K mg base 3 C_StoreReader "_read_record" (sp_StoreReader__read_record C_StoreReader K) := ⟨_, _, _, TC_StoreReader.cl, ⟨a57, i57, k57⟩, ok_StoreReader__read_record F57 T GX TC_Store TC_Record TC_Rule TC_Book TC_Job TC_StoreReader C_is_text C_content_key, b57⟩
  have M_StoreReader__read_count : Kn.Mt l.prog w K mg base 1 C_StoreReader "_read_count" (sp_StoreReader__read_count C_StoreReader K) := ⟨_, _, _, TC_StoreReader.cl, ⟨a58, i58, k58⟩, ok_StoreReader__read_count F58 T GX TC_Store TC_Record TC_Rule TC_Book TC_Job TC_StoreReader, b58⟩
  have M_StoreReader_read : Kn.Mt l.prog w K mg base 8 C_StoreReader "read" (sp_StoreReader_read C_StoreReader GX) := ⟨_, _, _, TC_StoreReader.cl, ⟨a59, i59, k59⟩, ok_StoreReader_read F59 T GX TC_Store TC_Record TC_Rule TC_Book TC_Job TC_StoreReader C__parts C__content_line M_StoreReader__read_content C__is_number C__row_line M_StoreReader__read_record C__count_line M_StoreReader__read_count, b59⟩
  have C_save_store : Kn.Cl l.prog w K mg base 4 "save_store" (sp_save_store C_Store C_Record K) := Kn.cl_of (ok_save_store F60 T GX TC_Store TC_Record TC_Rule TC_Book TC_Job TC_StoreReader M_Store_kept_texts C__content_line C_key_text M_Store_content_keys M_Store_kept_records C__row_line C__count_line M_Store_record_count) F60 (PySem.W.mg_of X G a60) b60
  have C_load_store : Kn.Cl l.prog w K mg base 9 "load_store" (sp_load_store C_Store C_StoreReader GX) := Kn.cl_of (ok_load_store F61 T GX TC_Store TC_Record TC_Rule TC_Book TC_Job TC_StoreReader M_StoreReader C_lines_of M_StoreReader_read M_Store M_Store_fill_from) F61 (PySem.W.mg_of X G a61) b61
  have C__law_make_store : Kn.Cl l.prog w K mg base 6 "_law_make_store" (sp__law_make_store C_Store C_Record C_Rule C_Book C_Job GX) := Kn.cl_of (ok__law_make_store F62 T GX TC_Store TC_Record TC_Rule TC_Book TC_Job TC_StoreReader M_Store C__law_cell M_Store_put_content C_rule_key C_content_key M_Store_add_record M_Record M_Store_content_keys M_Store_lose_content M_Store_damage_content M_Store_record_count M_Store_kept_records M_Store_lose_record M_Store_damage_record) F62 (PySem.W.mg_of X G a62) b62
  have C__law_string : Kn.Cl l.prog w K mg base 1 "_law_string" (sp__law_string K) := Kn.cl_of (ok__law_string F63 T GX TC_Store TC_Record TC_Rule TC_Book TC_Job TC_StoreReader) F63 (PySem.W.mg_of X G a63) b63
  exact ok_law F64 T GX TC_Store TC_Record TC_Rule TC_Book TC_Job TC_StoreReader M_Book M_Rule C__law_make_store C_make_job M_Store_kept_texts M_Store_kept_records C__law_string C_key_text C_save_store C_load_store M_Store_record_count M_Store_put_content M_Store_add_record M_Record C_content_key (PySem.W.mg_of X G aC_Store) (fun e => TyOf.ins e TC_Store.cl clR xgs xtk mrR) (Kn.kit_ref hdi_Store tyR ccR ccR)
end My
def PySem.W.Fast.tw11443068671001770848 : Unit := ()
def PySem.W.Fast.tw12823656879209177089 : Unit := ()
def PySem.W.Fast.tw12889622120455432003 : Unit := ()
def PySem.W.Fast.tw17743365173877262788 : Unit := ()
def PySem.W.Fast.tw14905643592418486407 : Unit := ()
def PySem.W.Fast.tw9138240835624772841 : Unit := ()
def PySem.W.Fast.tw12656948281848893001 : Unit := ()
def PySem.W.Fast.tw14583904823595419530 : Unit := ()
def PySem.W.Fast.tw7052977244109964557 : Unit := ()
def PySem.W.Fast.tw11785758654295384784 : Unit := ()
def PySem.W.Fast.tw15183567068124062865 : Unit := ()
def PySem.W.Fast.tw5375618376267173649 : Unit := ()
def PySem.W.Fast.tw15898155838261468467 : Unit := ()
def PySem.W.Fast.tw1314180839489411412 : Unit := ()
def PySem.W.Fast.tw14495249362407895892 : Unit := ()
def PySem.W.Fast.tw5498562018431387061 : Unit := ()
def PySem.W.Fast.tw5898154107047026261 : Unit := ()
def PySem.W.Fast.tw3588508227079805014 : Unit := ()
def PySem.W.Fast.tw5400802002563466806 : Unit := ()
def PySem.W.Fast.tw2021524071850175896 : Unit := ()
def PySem.W.Fast.tw14698719318154580827 : Unit := ()
def PySem.W.Fast.tw9749730472751239356 : Unit := ()
def PySem.W.Fast.tw12953201814033668191 : Unit := ()
def PySem.W.Fast.tw15173830632884856095 : Unit := ()
def PySem.W.Fast.tw4792528712692014911 : Unit := ()
open PySem PySem.W PyProof.Rows
set_option maxHeartbeats 0 in
theorem PySem.Challenge.cw_kilnyard_k38_saved_stores_holds : PySem.Challenge.rw_kilnyard_k38_saved_stores.Holds := by
  w_on; o_law; k_head; (case hw => w_witness2)
  k_fill
  refine L2.walk_of (l := PySem.Challenge.rw_kilnyard_k38_saved_stores) (n := 63) (k := 10) (x := "script") (CX := fun _ => L2.CX0) (sp := fun w => My.sp_law _) rfl (by decide) rfl ⟨rfl, by decide, by decide⟩ (fun w h Y => PySem.W.kIn_of Y) ?F (fun _ _ a ns hl _ hS => ⟨a, ns, rfl, ⟨hS, hl⟩, fun _ _ => rfl⟩) (fun _ _ _ _ _ h => h)
  case F =>
    intro w mg fa h KX G hmg
    refine' My.all_mk KX G hmg ?aC_Store ?pg_Store ?hdi_Store ?po_Store ?sa_Store ?mk_Store ?kc_Store ?na_journal_Store ?na__texts_Store ?na__rows_Store ?aC_Record ?pg_Record ?hdi_Record ?po_Record ?sa_Record ?mk_Record ?kc_Record ?na_outputs_Record ?na_rule_key_Record ?na_needs_Record ?na_results_Record ?aC_Rule ?pg_Rule ?hdi_Rule ?po_Rule ?sa_Rule ?mk_Rule ?kc_Rule ?na_outputs_Rule ?na_inputs_Rule ?na_sealed_Rule ?na_body_Rule ?aC_Book ?pg_Book ?hdi_Book ?po_Book ?sa_Book ?mk_Book ?kc_Book ?na_settings_Book ?na_rules_Book ?na_files_Book ?aC_Job ?pg_Job ?hdi_Job ?po_Job ?sa_Job ?mk_Job ?kc_Job ?na_rule_Job ?na_stem_Job ?na_outputs_Job ?na_inputs_Job ?aC_StoreReader ?pg_StoreReader ?hdi_StoreReader ?po_StoreReader ?sa_StoreReader ?mk_StoreReader ?kc_StoreReader ?na_texts_StoreReader ?na_rows_StoreReader ?na_last_key_StoreReader ?na_last_index_StoreReader ?na_count_StoreReader ?aB ?bsp ?brd ?bfi ?bhd ?bty ?xgs ?xtk ?xa_MissingContent ?xL_MissingContent ?xsa_MissingContent ?xex_MissingContent ?xty_MissingContent ?xkc_MissingContent ?xnkey_MissingContent ?xga_MissingContent ?xgg_MissingContent ?xhd_MissingContent ?xcl_MissingContent ?xmr_MissingContent ?xcc_MissingContent ?xkB_MissingContent ?xa_NoSuchRecord ?xL_NoSuchRecord ?xsa_NoSuchRecord ?xex_NoSuchRecord ?xty_NoSuchRecord ?xkc_NoSuchRecord ?xnindex_NoSuchRecord ?xga_NoSuchRecord ?xgg_NoSuchRecord ?xhd_NoSuchRecord ?xcl_NoSuchRecord ?xmr_NoSuchRecord ?xcc_NoSuchRecord ?xkB_NoSuchRecord ?xa_InvalidRecipe ?xL_InvalidRecipe ?xsa_InvalidRecipe ?xex_InvalidRecipe ?xty_InvalidRecipe ?xkc_InvalidRecipe ?xnpath_InvalidRecipe ?xnline_InvalidRecipe ?xncolumn_InvalidRecipe ?xnreason_InvalidRecipe ?xga_InvalidRecipe ?xgg_InvalidRecipe ?xhd_InvalidRecipe ?xcl_InvalidRecipe ?xmr_InvalidRecipe ?xcc_InvalidRecipe ?xkB_InvalidRecipe ?a0 ?i0 ?l0 ?c0 ?k0 ?a1 ?i1 ?l1 ?c1 ?k1 ?a2 ?i2 ?l2 ?c2 ?k2 ?a3 ?l3 ?c3 ?k3 ?a4 ?l4 ?c4 ?k4 ?a5 ?l5 ?c5 ?k5 ?a6 ?l6 ?c6 ?k6 ?a7 ?l7 ?c7 ?k7 ?a8 ?l8 ?c8 ?k8 ?a9 ?l9 ?c9 ?k9 ?a10 ?l10 ?c10 ?k10 ?a11 ?l11 ?c11 ?k11 ?a12 ?l12 ?c12 ?k12 ?a13 ?i13 ?l13 ?c13 ?k13 ?a14 ?i14 ?l14 ?c14 ?k14 ?a15 ?i15 ?l15 ?c15 ?k15 ?a16 ?l16 ?c16 ?k16 ?a17 ?l17 ?c17 ?k17 ?a18 ?l18 ?c18 ?k18 ?a19 ?l19 ?c19 ?k19 ?a20 ?l20 ?c20 ?k20 ?a21 ?l21 ?c21 ?k21 ?a22 ?l22 ?c22 ?k22 ?a23 ?l23 ?c23 ?k23 ?a24 ?l24 ?c24 ?k24 ?a25 ?l25 ?c25 ?k25 ?a26 ?l26 ?c26 ?k26 ?a27 ?l27 ?c27 ?k27 ?a28 ?l28 ?c28 ?k28 ?a29 ?i29 ?l29 ?c29 ?k29 ?a30 ?l30 ?c30 ?k30 ?a31 ?l31 ?c31 ?k31 ?a32 ?l32 ?c32 ?k32 ?a33 ?l33 ?c33 ?k33 ?a34 ?l34 ?c34 ?k34 ?a35 ?i35 ?l35 ?dl35 ?c35 ?k35 ?a36 ?i36 ?l36 ?c36 ?k36 ?a37 ?i37 ?l37 ?c37 ?k37 ?a38 ?i38 ?l38 ?c38 ?k38 ?a39 ?i39 ?l39 ?c39 ?k39 ?a40 ?i40 ?l40 ?c40 ?k40 ?a41 ?i41 ?l41 ?c41 ?k41 ?a42 ?i42 ?l42 ?c42 ?k42 ?a43 ?i43 ?l43 ?c43 ?k43 ?a44 ?i44 ?l44 ?c44 ?k44 ?a45 ?i45 ?l45 ?c45 ?k45 ?a46 ?i46 ?l46 ?c46 ?k46 ?a47 ?i47 ?l47 ?c47 ?k47 ?a48 ?i48 ?l48 ?c48 ?k48 ?a49 ?i49 ?l49 ?c49 ?k49 ?a50 ?l50 ?c50 ?k50 ?a51 ?l51 ?c51 ?k51 ?a52 ?l52 ?c52 ?k52 ?a53 ?l53 ?c53 ?k53 ?a54 ?l54 ?c54 ?k54 ?a55 ?i55 ?l55 ?c55 ?k55 ?a56 ?i56 ?l56 ?c56 ?k56 ?a57 ?i57 ?l57 ?c57 ?k57 ?a58 ?i58 ?l58 ?c58 ?k58 ?a59 ?i59 ?l59 ?c59 ?k59 ?a60 ?l60 ?c60 ?k60 ?a61 ?l61 ?c61 ?k61 ?a62 ?l62 ?c62 ?k62 ?a63 ?l63 ?c63 ?k63 ?a64 ?l64 ?c64 ?k64 ?zb_abs ?zb_all ?zb_dict ?zb_enumerate ?zb_int ?zb_isinstance ?zb_len ?zb_list ?zb_ord ?zb_range ?zb_sorted ?zb_str ?zb_tuple ?zc_NEWLINE ?zc_SPACE ?zc_PERCENT ?zc_TILDE ?zc_SIGNS_BEFORE ?zc_SIGNS_BEHIND ?zc_DIGIT_BITS ?zc_INDENT ?zc_SIGNS ?zc_QUOTE ?zc_BACKSLASH ?zc_WORD_ENDS ?zc_MOST_NAMES ?zc_NAME_LENGTH ?zc_NAME_SIGNS ?zc_NOTHING ?zc_YES ?zc_NO ?zc_MOST_DIGITS_saving ?zd_ESCAPES ?zl_ESCAPES ?zo_ESCAPES ?zk_ESCAPES ?ze_ESCAPES ?hdig ?tyR ?ccR ?clR ?mrR
    (case aC_Store => k_is)
    (case pg_Store => k_is)
    (case hdi_Store => k_is)
    (case po_Store => k_is)
    (case sa_Store => k_is)
    (case mk_Store => k_is)
    (case kc_Store => k_is)
    (case na_journal_Store => k_is)
    (case na__texts_Store => k_is)
    (case na__rows_Store => k_is)
    (case aC_Record => k_is)
    (case pg_Record => k_is)
    (case hdi_Record => k_is)
    (case po_Record => k_is)
    (case sa_Record => k_is)
    (case mk_Record => k_is)
    (case kc_Record => k_is)
    (case na_outputs_Record => k_is)
    (case na_rule_key_Record => k_is)
    (case na_needs_Record => k_is)
    (case na_results_Record => k_is)
    (case aC_Rule => k_is)
    (case pg_Rule => k_is)
    (case hdi_Rule => k_is)
    (case po_Rule => k_is)
    (case sa_Rule => k_is)
    (case mk_Rule => k_is)
    (case kc_Rule => k_is)
    (case na_outputs_Rule => k_is)
    (case na_inputs_Rule => k_is)
    (case na_sealed_Rule => k_is)
    (case na_body_Rule => k_is)
    (case aC_Book => k_is)
    (case pg_Book => k_is)
    (case hdi_Book => k_is)
    (case po_Book => k_is)
    (case sa_Book => k_is)
    (case mk_Book => k_is)
    (case kc_Book => k_is)
    (case na_settings_Book => k_is)
    (case na_rules_Book => k_is)
    (case na_files_Book => k_is)
    (case aC_Job => k_is)
    (case pg_Job => k_is)
    (case hdi_Job => k_is)
    (case po_Job => k_is)
    (case sa_Job => k_is)
    (case mk_Job => k_is)
    (case kc_Job => k_is)
    (case na_rule_Job => k_is)
    (case na_stem_Job => k_is)
    (case na_outputs_Job => k_is)
    (case na_inputs_Job => k_is)
    (case aC_StoreReader => k_is)
    (case pg_StoreReader => k_is)
    (case hdi_StoreReader => k_is)
    (case po_StoreReader => k_is)
    (case sa_StoreReader => k_is)
    (case mk_StoreReader => k_is)
    (case kc_StoreReader => k_is)
    (case na_texts_StoreReader => k_is)
    (case na_rows_StoreReader => k_is)
    (case na_last_key_StoreReader => k_is)
    (case na_last_index_StoreReader => k_is)
    (case na_count_StoreReader => k_is)
    (case aB => k_is)
    (case bsp => k_is)
    (case brd => k_is)
    (case bfi => k_is)
    (case bhd => k_is)
    (case bty => k_is)
    (case xgs => k_is)
    (case xtk => k_is)
    (case xa_MissingContent => k_is)
    (case xL_MissingContent => k_is)
    (case xsa_MissingContent => k_is)
    (case xex_MissingContent => k_is)
    (case xty_MissingContent => k_is)
    (case xkc_MissingContent => k_is)
    (case xnkey_MissingContent => k_is)
    (case xga_MissingContent => k_is)
    (case xgg_MissingContent => k_is)
    (case xhd_MissingContent => k_is)
    (case xcl_MissingContent => k_is)
    (case xmr_MissingContent => k_is)
    (case xcc_MissingContent => first | rfl | k_is)
    (case xkB_MissingContent => k_is)
    (case xa_NoSuchRecord => k_is)
    (case xL_NoSuchRecord => k_is)
    (case xsa_NoSuchRecord => k_is)
    (case xex_NoSuchRecord => k_is)
    (case xty_NoSuchRecord => k_is)
    (case xkc_NoSuchRecord => k_is)
    (case xnindex_NoSuchRecord => k_is)
    (case xga_NoSuchRecord => k_is)
    (case xgg_NoSuchRecord => k_is)
    (case xhd_NoSuchRecord => k_is)
    (case xcl_NoSuchRecord => k_is)
    (case xmr_NoSuchRecord => k_is)
    (case xcc_NoSuchRecord => first | rfl | k_is)
    (case xkB_NoSuchRecord => k_is)
    (case xa_InvalidRecipe => k_is)
    (case xL_InvalidRecipe => k_is)
    (case xsa_InvalidRecipe => k_is)
    (case xex_InvalidRecipe => k_is)
    (case xty_InvalidRecipe => k_is)
    (case xkc_InvalidRecipe => k_is)
    (case xnpath_InvalidRecipe => k_is)
    (case xnline_InvalidRecipe => k_is)
    (case xncolumn_InvalidRecipe => k_is)
    (case xnreason_InvalidRecipe => k_is)
    (case xga_InvalidRecipe => k_is)
    (case xgg_InvalidRecipe => k_is)
    (case xhd_InvalidRecipe => k_is)
    (case xcl_InvalidRecipe => k_is)
    (case xmr_InvalidRecipe => k_is)
    (case xcc_InvalidRecipe => first | rfl | k_is)
    (case xkB_InvalidRecipe => k_is)
    (case a0 => k_is)
    (case i0 => k_is)
    (case l0 => k_is)
    (case c0 => k_is)
    (case k0 => k_is)
    (case a1 => k_is)
    (case i1 => k_is)
    (case l1 => k_is)
    (case c1 => k_is)
    (case k1 => k_is)
    (case a2 => k_is)
    (case i2 => k_is)
    (case l2 => k_is)
    (case c2 => k_is)
    (case k2 => k_is)
    (case a3 => k_is)
    (case l3 => k_is)
    (case c3 => k_is)
    (case k3 => k_is)
    (case a4 => k_is)
    (case l4 => k_is)
    (case c4 => k_is)
    (case k4 => k_is)
    (case a5 => k_is)
    (case l5 => k_is)
    (case c5 => k_is)
    (case k5 => k_is)
    (case a6 => k_is)
    (case l6 => k_is)
    (case c6 => k_is)
    (case k6 => k_is)
    (case a7 => k_is)
    (case l7 => k_is)
    (case c7 => k_is)
    (case k7 => k_is)
    (case a8 => k_is)
    (case l8 => k_is)
    (case c8 => k_is)
    (case k8 => k_is)
    (case a9 => k_is)
    (case l9 => k_is)
    (case c9 => k_is)
    (case k9 => k_is)
    (case a10 => k_is)
    (case l10 => k_is)
    (case c10 => k_is)
    (case k10 => k_is)
    (case a11 => k_is)
    (case l11 => k_is)
    (case c11 => k_is)
    (case k11 => k_is)
    (case a12 => k_is)
    (case l12 => k_is)
    (case c12 => k_is)
    (case k12 => k_is)
    (case a13 => k_is)
    (case i13 => k_is)
    (case l13 => k_is)
    (case c13 => k_is)
    (case k13 => k_is)
    (case a14 => k_is)
    (case i14 => k_is)
    (case l14 => k_is)
    (case c14 => k_is)
    (case k14 => k_is)
    (case a15 => k_is)
    (case i15 => k_is)
    (case l15 => k_is)
    (case c15 => k_is)
    (case k15 => k_is)
    (case a16 => k_is)
    (case l16 => k_is)
    (case c16 => k_is)
    (case k16 => k_is)
    (case a17 => k_is)
    (case l17 => k_is)
    (case c17 => k_is)
    (case k17 => k_is)
    (case a18 => k_is)
    (case l18 => k_is)
    (case c18 => k_is)
    (case k18 => k_is)
    (case a19 => k_is)
    (case l19 => k_is)
    (case c19 => k_is)
    (case k19 => k_is)
    (case a20 => k_is)
    (case l20 => k_is)
    (case c20 => k_is)
    (case k20 => k_is)
    (case a21 => k_is)
    (case l21 => k_is)
    (case c21 => k_is)
    (case k21 => k_is)
    (case a22 => k_is)
    (case l22 => k_is)
    (case c22 => k_is)
    (case k22 => k_is)
    (case a23 => k_is)
    (case l23 => k_is)
    (case c23 => k_is)
    (case k23 => k_is)
    (case a24 => k_is)
    (case l24 => k_is)
    (case c24 => k_is)
    (case k24 => k_is)
    (case a25 => k_is)
    (case l25 => k_is)
    (case c25 => k_is)
    (case k25 => k_is)
    (case a26 => k_is)
    (case l26 => k_is)
    (case c26 => k_is)
    (case k26 => k_is)
    (case a27 => k_is)
    (case l27 => k_is)
    (case c27 => k_is)
    (case k27 => k_is)
    (case a28 => k_is)
    (case l28 => k_is)
    (case c28 => k_is)
    (case k28 => k_is)
    (case a29 => k_is)
    (case i29 => k_is)
    (case l29 => k_is)
    (case c29 => k_is)
    (case k29 => k_is)
    (case a30 => k_is)
    (case l30 => k_is)
    (case c30 => k_is)
    (case k30 => k_is)
    (case a31 => k_is)
    (case l31 => k_is)
    (case c31 => k_is)
    (case k31 => k_is)
    (case a32 => k_is)
    (case l32 => k_is)
    (case c32 => k_is)
    (case k32 => k_is)
    (case a33 => k_is)
    (case l33 => k_is)
    (case c33 => k_is)
    (case k33 => k_is)
    (case a34 => k_is)
    (case l34 => k_is)
    (case c34 => k_is)
    (case k34 => k_is)
    (case a35 => k_is)
    (case i35 => k_is)
    (case l35 => k_is)
    (case dl35 => k_is)
    (case c35 => k_is)
    (case k35 => k_is)
    (case a36 => k_is)
    (case i36 => k_is)
    (case l36 => k_is)
    (case c36 => k_is)
    (case k36 => k_is)
    (case a37 => k_is)
    (case i37 => k_is)
    (case l37 => k_is)
    (case c37 => k_is)
    (case k37 => k_is)
    (case a38 => k_is)
    (case i38 => k_is)
    (case l38 => k_is)
    (case c38 => k_is)
    (case k38 => k_is)
    (case a39 => k_is)
    (case i39 => k_is)
    (case l39 => k_is)
    (case c39 => k_is)
    (case k39 => k_is)
    (case a40 => k_is)
    (case i40 => k_is)
    (case l40 => k_is)
    (case c40 => k_is)
    (case k40 => k_is)
    (case a41 => k_is)
    (case i41 => k_is)
    (case l41 => k_is)
    (case c41 => k_is)
    (case k41 => k_is)
    (case a42 => k_is)
    (case i42 => k_is)
    (case l42 => k_is)
    (case c42 => k_is)
    (case k42 => k_is)
    (case a43 => k_is)
    (case i43 => k_is)
    (case l43 => k_is)
    (case c43 => k_is)
    (case k43 => k_is)
    (case a44 => k_is)
    (case i44 => k_is)
    (case l44 => k_is)
    (case c44 => k_is)
    (case k44 => k_is)
    (case a45 => k_is)
    (case i45 => k_is)
    (case l45 => k_is)
    (case c45 => k_is)
    (case k45 => k_is)
    (case a46 => k_is)
    (case i46 => k_is)
    (case l46 => k_is)
    (case c46 => k_is)
    (case k46 => k_is)
    (case a47 => k_is)
    (case i47 => k_is)
    (case l47 => k_is)
    (case c47 => k_is)
    (case k47 => k_is)
    (case a48 => k_is)
    (case i48 => k_is)
    (case l48 => k_is)
    (case c48 => k_is)
    (case k48 => k_is)
    (case a49 => k_is)
    (case i49 => k_is)
    (case l49 => k_is)
    (case c49 => k_is)
    (case k49 => k_is)
    (case a50 => k_is)
    (case l50 => k_is)
    (case c50 => k_is)
    (case k50 => k_is)
    (case a51 => k_is)
    (case l51 => k_is)
    (case c51 => k_is)
    (case k51 => k_is)
    (case a52 => k_is)
    (case l52 => k_is)
    (case c52 => k_is)
    (case k52 => k_is)
    (case a53 => k_is)
    (case l53 => k_is)
    (case c53 => k_is)
    (case k53 => k_is)
    (case a54 => k_is)
    (case l54 => k_is)
    (case c54 => k_is)
    (case k54 => k_is)
    (case a55 => k_is)
    (case i55 => k_is)
    (case l55 => k_is)
    (case c55 => k_is)
    (case k55 => k_is)
    (case a56 => k_is)
    (case i56 => k_is)
    (case l56 => k_is)
    (case c56 => k_is)
    (case k56 => k_is)
    (case a57 => k_is)
    (case i57 => k_is)
    (case l57 => k_is)
    (case c57 => k_is)
    (case k57 => k_is)
    (case a58 => k_is)
    (case i58 => k_is)
    (case l58 => k_is)
    (case c58 => k_is)
    (case k58 => k_is)
    (case a59 => k_is)
    (case i59 => k_is)
    (case l59 => k_is)
    (case c59 => k_is)
    (case k59 => k_is)
    (case a60 => k_is)
    (case l60 => k_is)
    (case c60 => k_is)
    (case k60 => k_is)
    (case a61 => k_is)
    (case l61 => k_is)
    (case c61 => k_is)
    (case k61 => k_is)
    (case a62 => k_is)
    (case l62 => k_is)
    (case c62 => k_is)
    (case k62 => k_is)
    (case a63 => k_is)
    (case l63 => k_is)
    (case c63 => k_is)
    (case k63 => k_is)
    (case a64 => k_is)
    (case l64 => k_is)
    (case c64 => k_is)
    (case k64 => k_is)
    (case zb_abs => k_is)
    (case zb_all => k_is)
    (case zb_dict => k_is)
    (case zb_enumerate => k_is)
    (case zb_int => k_is)
    (case zb_isinstance => k_is)
    (case zb_len => k_is)
    (case zb_list => k_is)
    (case zb_ord => k_is)
    (case zb_range => k_is)
    (case zb_sorted => k_is)
    (case zb_str => k_is)
    (case zb_tuple => k_is)
    (case zc_NEWLINE => k_is)
    (case zc_SPACE => k_is)
    (case zc_PERCENT => k_is)
    (case zc_TILDE => k_is)
    (case zc_SIGNS_BEFORE => k_is)
    (case zc_SIGNS_BEHIND => k_is)
    (case zc_DIGIT_BITS => k_is)
    (case zc_INDENT => k_is)
    (case zc_SIGNS => k_is)
    (case zc_QUOTE => k_is)
    (case zc_BACKSLASH => k_is)
    (case zc_WORD_ENDS => k_is)
    (case zc_MOST_NAMES => k_is)
    (case zc_NAME_LENGTH => k_is)
    (case zc_NAME_SIGNS => k_is)
    (case zc_NOTHING => k_is)
    (case zc_YES => k_is)
    (case zc_NO => k_is)
    (case zc_MOST_DIGITS_saving => k_is)
    (case zd_ESCAPES => k_is)
    (case zl_ESCAPES => k_is)
    (case zo_ESCAPES => first | rfl | k_is)
    (case zk_ESCAPES => exact ⟨⟨_, _, rfl, rfl⟩, ⟨_, _, rfl, rfl⟩, ⟨_, _, rfl, rfl⟩, trivial⟩)
    (case ze_ESCAPES => exact .cons ⟨_, rfl⟩ ⟨_, rfl⟩ (.cons ⟨_, rfl⟩ ⟨_, rfl⟩ (.cons ⟨_, rfl⟩ ⟨_, rfl⟩ .nil)))
    (case hdig => k_is)
    (case tyR => k_is)
    (case ccR => first | rfl | k_is)
    (case clR => k_is)
    (case mrR => k_is)

