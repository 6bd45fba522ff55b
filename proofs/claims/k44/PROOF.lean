import PyProof.Rows.All
import Wide.All
import OpenK.AllK
import Wide.FinOn
import HandS.Evl
import HandS.Codes
import HandS.Iter
import HandS.Dict
import HandS.Text
import HandS.Words
import HandS.Walk
import HandS.IsInst
import HandS.Steps
import HandS.More
import HandS.ReplaceList
import HandS.ReplaceLit
import HandS.Replace
import HandS.ExcInit
import HandS.ExcIs
import HandS.ExcField
import HandS.IntHex
import HandS.FStr
import KE.KExcIs
import KE.KxField
import HandS.WordsExc
import HandS.Defaults
import HandS.ReplaceDef
import HandS.TryMany
import HandS.WordsDict
import HandS.StrMore
import PyProof.StrOps2
import PyProof.Rows.SortShellAny
import HandS.Strs
import HandS.Style
import HandS.SortKw
import HandS.DictComp
import HandS.DeepEq
import KE.DataMinMax
import KE.KTryMore
import HandS.TryOnly
import HandS.ExcCtx
import HandS.HotCalls
import HandS.Comp
import PyProof.TupleIter
import HandS.OwnEq
import PySem.Challenge.RW_kilnyard_k44_records_of_a_store
set_option Elab.async false
set_option linter.all false
set_option maxRecDepth 100000
set_option maxHeartbeats 4000000
/-! Kn: what all our proofs share: named relations, values, comprehensions, promises of pure defs. -/
namespace Kn
open PySem PySem.Spec PyProof.Rows L2 Evl SX

/-! ### relations with a name -/
def rAddStr : R2 := fun x y H Q => ∃ i j, x = .str i ∧ y = .str j ∧ i.length + j.length ≤ sizeLine ∧ Q (.str (i ++ j)) H
theorem op_addS {X : Cx} : OpR X (binaryOp .Add) rAddStr := op_add_str
def rLenStr : List V → Hp → VK → Prop := fun xs H Q => ∃ z, xs = [.str z] ∧ z.length ≤ sizeLine ∧ Q (.int z.length) H
theorem cr_lenStr {X : Cx} : CallR X (.builtin "len") rLenStr := call_len_str
theorem cr_lenSeq {X : Cx} : CallR X (.builtin "len") (rLenS X.K) := call_len_seq
def rOrd : List V → Hp → VK → Prop := fun xs H Q => ∃ x, xs = [.str x] ∧ x.length = 1 ∧ Q (.int (x.cps.getD 0 0 : Nat)) H
theorem cr_ord {X : Cx} : CallR X (.builtin "ord") rOrd := call_ord
def rInt1 : List V → Hp → VK → Prop := fun xs H Q => (∃ i, xs = [.int i] ∧ Q (.int i) H) ∨ ∃ k, xs = [.bl k] ∧ Q (.int (if k then 1 else 0)) H
theorem cr_int1 {X : Cx} : CallR X (.type "int") rInt1 := call_int1
def rAbs : List V → Hp → VK → Prop := fun xs H Q => ∃ i, xs = [.int i] ∧ Q (.int (if i < 0 then -i else i)) H
theorem cr_abs {X : Cx} : CallR X (.builtin "abs") rAbs := call_abs
def rJoin (K : PySem.W.Frag) : V → List V → Hp → VK → Prop := fun x xs H Q => ∃ a p, ∃ ys : List Str, x = .str a ∧ xs = [.ref p] ∧ (SqL K H p (ys.map V.str) ∨ SqT K H p (ys.map V.str)) ∧ (ys.map (·.length)).sum + ys.length * a.length ≤ 16777216 ∧ Q (.str (Txt.join a ys)) H
theorem pe_joinN {X : Cx} {e : Expr} {to te : TE} (h : PE X e (tM1 (fun x xs H Q => ∃ a p, ∃ ys : List Str, x = .str a ∧ xs = [.ref p] ∧ (SqL X.K H p (ys.map V.str) ∨ SqT X.K H p (ys.map V.str)) ∧ (ys.map (·.length)).sum + ys.length * a.length ≤ 16777216 ∧ Q (.str (Txt.join a ys)) H) to te)) : PE X e (tM1 (rJoin X.K) to te) := h
theorem cr_isi {X : Cx} : CallR X (.builtin "isinstance") (rIsi X.K) := call_isi

/-! ### values -/
section
variable {K : PySem.W.Frag} {σ : L2.St} {H H' : Hp} {ta tb te tc : TE} {t u : TT} {x y z v : V}
theorem val_abs (i : Int) : (if i < 0 then -i else i) = (i.natAbs : Int) := by split <;> omega
theorem rc_abs {i : Int} : RC rAbs [.int i] H (.int (i.natAbs : Int)) := fun H1 _ _ q => ⟨i, rfl, by rw [val_abs]; exact q H1 (Ex.refl H1)⟩
theorem rc_int {i : Int} : RC rInt1 [.int i] H (.int i) := fun H1 _ _ q => .inl ⟨i, rfl, q H1 (Ex.refl H1)⟩
theorem rc_intB {b : Bool} : RC rInt1 [.bl b] H (.int (if b then 1 else 0)) := fun H1 _ _ q => .inr ⟨b, rfl, q H1 (Ex.refl H1)⟩
theorem rc_ord {c : Nat} : RC rOrd [.str (S [c])] H (.int (c : Int)) := fun H1 _ _ q => ⟨S [c], rfl, rfl, q H1 (Ex.refl H1)⟩
theorem rc_lenS {l : List Nat} (h : l.length ≤ 100000) : RC rLenStr [.str (S l)] H (.int (l.length : Int)) := fun H1 _ _ q => ⟨S l, rfl, by rw [S_len]; exact sz_of h, by rw [S_len]; exact q H1 (Ex.refl H1)⟩
theorem rv_addS {a b : List Nat} (h : a.length + b.length ≤ 100000) : RV rAddStr (.str (S a)) (.str (S b)) H (.str (S (a ++ b))) := fun H1 _ _ q =>
  ⟨S a, S b, rfl, rfl, by rw [S_len, S_len]; exact sz_of h, by rw [S_cat]; exact q H1 (Ex.refl H1)⟩
theorem rv_mod {i j : Int} (h : 0 < j) : RV (rI (fun _ j => 0 < j) fun i j => .int (i % j)) (.int i) (.int j) H (.int (i % j)) := rv_I h
theorem rv_fdiv {i j : Int} (h : CDiv i j) : RV (rI CDiv fun i j => .int (i / j)) (.int i) (.int j) H (.int (i / j)) := rv_I h
theorem rv_mul {i j : Int} (h : CMul i j) : RV (rI CMul fun i j => .int (i * j)) (.int i) (.int j) H (.int (i * j)) := rv_I h
theorem S1 (x : Str) {l : List Nat} (h : x.cps.toList = l) : x = S l := TL.ext_tl h
theorem ev_chain {r r' : R2} {k b : Bool} (ha : Ev ta σ H x) (hb : Ev tb σ H y) (hr : RV r x y H (.bl k)) (hc : Ev tc σ H z) (hr' : RV r' y z H (.bl b)) : Ev (tChain r r' ta tb tc) σ H (.bl (k && b)) := fun H1 e Q q =>
  ha H1 e _ fun H2 e2 => hb H2 (e.trans e2) _ fun H3 e3 => hr H3 ((e.trans e2).trans e3) _ fun H4 e4 => ⟨k, rfl, by
    have e14 := (e2.trans e3).trans e4
    cases k with
    | true =>
      show tc σ H4 fun w' H5 => r' y w' H5 Q
      exact hc H4 (e.trans e14) _ fun H5 e5 => hr' H5 ((e.trans e14).trans e5) Q fun H6 e6 => q H6 ((e14.trans e5).trans e6)
    | false =>
      show Q (.bl false) H4
      exact q H4 e14⟩
theorem ev_idxS {l : List Nat} {i : Int} {c : Nat} (ha : Ev ta σ H (.str (S l))) (hb : Ev tb σ H (.int i)) (h : l.length ≤ 100000) (hat : atI l i = some c) : Ev (tOp rIxS ta tb) σ H (.str (S [c])) := ev_op ha hb (rv_ixS (w := S l) (by rw [S_len]; exact h) hat)
theorem atI_nat' {α : Type} {xs : List α} {i : Int} {j : Nat} {v : α} (hi : i = (j : Int)) (h : xs[j]? = some v) : atI xs i = some v := by
  subst hi
  exact atI_nat h
theorem ev_join {s : List Nat} {ys : List (List Nat)} (hs : Ev ta σ H (.str (S s))) (hl : EvL tb σ H (ys.map fun l => V.str (S l))) (hz : (ys.map (·.length)).sum + ys.length * s.length ≤ 16777216) : Ev (tM1 (rJoin K) ta tb) σ H (.str (S (TL.joinL s ys))) := fun H1 e Q q =>
  hs H1 e _ fun H2 e2 => ⟨⟨_, rfl⟩, hl H2 (e.trans e2) _ fun p H3 _ e3 hp => ⟨S s, p, ys.map S, rfl, rfl, .inl (.inl (.inl (by rw [List.map_map]; exact hp))), by
    rw [SX.lens, List.length_map, S_len]
    exact hz, by
    rw [SX.join_S]
    exact q H3 (e2.trans e3)⟩⟩
theorem ev_slS {to tp : TO} {l : List Nat} {lo hi : Option Int} (h : Ev te σ H (.str (S l))) (h1 : EvO to σ H lo) (h2 : EvO tp σ H hi) (hz : l.length ≤ 100000) : Ev (tSl rSlS te to tp) σ H (.str (cutS (S l) lo hi)) := fun H1 e _ q =>
  h H1 e _ fun H2 e2 => h1 H2 (e.trans e2) _ fun H3 e3 => h2 H3 ((e.trans e2).trans e3) _ fun H4 e4 => ⟨S l, rfl, by rw [S_len]; exact sz_of hz, q H4 ((e2.trans e3).trans e4)⟩
theorem ev_isi {T : String} {c : String} {b : Bool} (ha : Ev ta σ H x) (ht : TyX K H x (.type T)) (hb : kitB T c = some b) (hm : ∀ H1, Ex H H1 → TyX K H1 x (.type T)) : Ev (tCB (rIsi K) (tCons ta (tCons (tC (.ty c)) tNil))) σ H (.bl b) := fun H1 e Q q =>
  ha H1 e _ fun H2 e2 => ⟨x, .ty c, .type T, .type c, b, rfl, .ty c, hm H2 (e.trans e2), kit_ty hb, q H2 e2⟩
theorem ev_all {τ : Type} {xs : List τ} {p : τ → Bool} (ha : EvL ta σ H (xs.map fun a => V.bl (p a))) : Ev (tCB (rAll K) (tCons ta tNil)) σ H (.bl (xs.all p)) := fun H1 e Q q =>
  ha H1 e _ fun a H2 _ e2 h2 => ⟨a, xs.map p, rfl, sq_of (by rw [List.map_map]; exact h2), by
    have hh : (xs.map p).all id = xs.all p := by rw [List.all_map]; rfl
    rw [hh]
    exact q H2 e2⟩

/-! ### comprehensions: no test, a new list of what each item gives -/
theorem given_all {α : Type} {xs : List α} {f : α → V} {d : V} : given xs.length (fun _ => true) (fun i => (xs[i]?.map f).getD d) = xs.map f := by
  unfold given
  rw [List.filter_eq_self.mpr (fun _ _ => rfl)]
  refine List.ext_getElem (by simp) fun i h1 h2 => ?_
  simp at h1 h2
  simp [h2]
theorem et_yes {H : Hp} : EvT tYes σ H true := fun H1 _ _ q => q H1 (Ex.refl H1)
theorem el_lcM {τ : Type} {a : Addr} {ns : List τ} {g f : τ → V} {tl : TE} {j : Nat} {vs : List Nat} (h : Ev tl σ H (.ref a)) (hx : SqL K H a (ns.map g)) (hz : ns.length ≤ 40000) (hw : ∀ x, wipe ((wipe σ vs).set j (some x)) vs = wipe σ vs)
    (he : ∀ n ∈ ns, ∀ H1, Ex H H1 → Ev te ((wipe σ vs).set j (some (g n))) H1 (f n)) : EvL (tLc (iList K tl) (gName j) tYes te vs) σ H (ns.map f) := by
  have k := el_lcL (K := K) (te := te) (t := tYes) (j := j) (vs := vs) (fun _ => true) (fun i => (ns[i]?.map f).getD .non) h hx (by rw [List.length_map]; exact hz) hw (fun _ _ H1 _ _ => et_yes) (fun i x H1 e hi _ => by
    rw [List.getElem?_map] at hi
    cases hn : ns[i]? with
    | none => rw [hn] at hi; cases hi
    | some n =>
      rw [hn] at hi
      cases Option.some.inj hi
      exact he n (List.mem_of_getElem? hn) H1 e)
  rw [List.length_map, given_all] at k
  exact k
theorem el_lcN {τ : Type} {ns : List τ} {g f : τ → V} {tl : TE} {j : Nat} {vs : List Nat} (h : EvL tl σ H (ns.map g)) (hz : ns.length ≤ 40000) (hw : ∀ x, wipe ((wipe σ vs).set j (some x)) vs = wipe σ vs)
    (he : ∀ n ∈ ns, ∀ H1, Ex H H1 → Ev te ((wipe σ vs).set j (some (g n))) H1 (f n)) : EvL (tLc (iList K tl) (gName j) tYes te vs) σ H (ns.map f) := by
  have k := el_lcNL (K := K) (te := te) (t := tYes) (j := j) (vs := vs) (fun _ => true) (fun i => (ns[i]?.map f).getD .non) h (by rw [List.length_map]; exact hz) hw (fun _ _ H1 _ _ => et_yes) (fun i x H1 e hi _ => by
    rw [List.getElem?_map] at hi
    cases hn : ns[i]? with
    | none => rw [hn] at hi; cases hi
    | some n =>
      rw [hn] at hi
      cases Option.some.inj hi
      exact he n (List.mem_of_getElem? hn) H1 e)
  rw [List.length_map, given_all] at k
  exact k
theorem el_lcR {n : Int} {f : Nat → V} {ta : TA} {j : Nat} {vs : List Nat} (h : EvA ta σ H [.int n]) (hn : 0 ≤ n ∧ n ≤ 40000) (hw : ∀ x, wipe ((wipe σ vs).set j (some x)) vs = wipe σ vs)
    (he : ∀ (i : Nat) H1, Ex H H1 → (i : Int) < n → Ev te ((wipe σ vs).set j (some (.int (i : Int)))) H1 (f i)) : EvL (tLc (iRng1 ta) (gName j) tYes te vs) σ H ((List.range n.toNat).map f) := by
  have k := el_lcR1 (te := te) (t := tYes) (j := j) (vs := vs) (fun _ => true) f h hn hw (fun _ H1 _ _ => et_yes) (fun i H1 e hi _ => he i H1 e hi)
  unfold given at k
  rw [List.filter_eq_self.mpr (fun _ _ => rfl)] at k
  exact k
/-- over the signs of a text -/
theorem el_lcS {l : List Nat} {f : Nat → V} {ts : TE} {j : Nat} {vs : List Nat} (h : Ev ts σ H (.str (S l))) (hz : l.length ≤ 40000) (hw : ∀ x, wipe ((wipe σ vs).set j (some x)) vs = wipe σ vs)
    (he : ∀ c ∈ l, ∀ H1, Ex H H1 → Ev te ((wipe σ vs).set j (some (.str (S [c])))) H1 (f c)) : EvL (tLc (iStr ts) (gName j) tYes te vs) σ H (l.map f) := fun H0 e Q q => h H0 e _ fun H1 e1 => ⟨S l, rfl, fun Dl hD => by
  have hl : (S l).cps.size = l.length := by simp [S]
  refine lc_it walk_str (Cw H1 (fun _ => true) (fun i => (l[i]?.map f).getD .non) Dl) ⟨hD, Ex.new hD, upd_same⟩ (fun _ _ _ _ => trivial) (fun i x H2 H3 hi p y => ?_) (fun H2 p => ?_)
  · obtain ⟨rfl, c, hc, rfl⟩ := y
    have hc' : l[i]? = some c := by simpa [S] using hc
    refine ⟨hw _, cw_turn p (by rw [hl] at hi; omega) et_yes (fun _ => ?_)⟩
    rw [hc']
    exact he c (List.mem_of_getElem? hc') H1 (e.trans e1)
  · rw [hl] at p
    have := p.2.2
    rw [given_all] at this
    exact q Dl H2 (fresh_back e1 p.1) (e1.trans p.2.1) this⟩
end

/-! ### promises of pure defs: a value, a new list -/
def Rt (H : Hp) (v : V) (Q : VK) : Prop := ∀ H1, Ex H H1 → Q v H1
def Rl (H : Hp) (xs : List V) (Q : VK) : Prop := ∀ p H1, H p = none → Ex H H1 → H1 p = some (.lst xs) → Q (.ref p) H1
def sp1 {α : Type} (A : α → List V) (pre : α → Hp → Prop) (val : α → V) : Sp := fun vs H Q _ => ∃ a, vs = A a ∧ pre a H ∧ Rt H (val a) Q
def sp2 {α β : Type} (A : α → β → List V) (pre : α → β → Hp → Prop) (val : α → β → V) : Sp := fun vs H Q _ => ∃ a b, vs = A a b ∧ pre a b H ∧ Rt H (val a b) Q
def sp3 {α β γ : Type} (A : α → β → γ → List V) (pre : α → β → γ → Hp → Prop) (val : α → β → γ → V) : Sp := fun vs H Q _ => ∃ a b c, vs = A a b c ∧ pre a b c H ∧ Rt H (val a b c) Q
def sl1 {α : Type} (A : α → List V) (pre : α → Hp → Prop) (val : α → List V) : Sp := fun vs H Q _ => ∃ a, vs = A a ∧ pre a H ∧ Rl H (val a) Q
def sl2 {α β : Type} (A : α → β → List V) (pre : α → β → Hp → Prop) (val : α → β → List V) : Sp := fun vs H Q _ => ∃ a b, vs = A a b ∧ pre a b H ∧ Rl H (val a b) Q
def sl3 {α β γ : Type} (A : α → β → γ → List V) (pre : α → β → γ → Hp → Prop) (val : α → β → γ → List V) : Sp := fun vs H Q _ => ∃ a b c, vs = A a b c ∧ pre a b c H ∧ Rl H (val a b c) Q
section
variable {K : PySem.W.Frag} {σ : L2.St} {H H' : Hp} {ta : TA} {E : XK} {α β γ : Type}
theorem ev_c1 {A : α → List V} {pre : α → Hp → Prop} {val : α → V} {a : α} (h : EvA ta σ H (A a)) (hp : ∀ H1, Ex H H1 → pre a H1) : Ev (tCall (sp1 A pre val) [] E ta) σ H (val a) := fun H1 e Q q =>
  h H1 e _ fun H2 e2 => ⟨a, List.append_nil _, hp H2 (e.trans e2), fun H3 e3 => q H3 (e2.trans e3)⟩
theorem ev_c2 {A : α → β → List V} {pre : α → β → Hp → Prop} {val : α → β → V} {a : α} {b : β} (h : EvA ta σ H (A a b)) (hp : ∀ H1, Ex H H1 → pre a b H1) : Ev (tCall (sp2 A pre val) [] E ta) σ H (val a b) := fun H1 e Q q =>
  h H1 e _ fun H2 e2 => ⟨a, b, List.append_nil _, hp H2 (e.trans e2), fun H3 e3 => q H3 (e2.trans e3)⟩
theorem ev_c3 {A : α → β → γ → List V} {pre : α → β → γ → Hp → Prop} {val : α → β → γ → V} {a : α} {b : β} {c : γ} (h : EvA ta σ H (A a b c)) (hp : ∀ H1, Ex H H1 → pre a b c H1) : Ev (tCall (sp3 A pre val) [] E ta) σ H (val a b c) := fun H1 e Q q =>
  h H1 e _ fun H2 e2 => ⟨a, b, c, List.append_nil _, hp H2 (e.trans e2), fun H3 e3 => q H3 (e2.trans e3)⟩
theorem el_c1 {A : α → List V} {pre : α → Hp → Prop} {val : α → List V} {a : α} (h : EvA ta σ H (A a)) (hp : ∀ H1, Ex H H1 → pre a H1) : EvL (tCall (sl1 A pre val) [] E ta) σ H (val a) := fun H1 e Q q =>
  h H1 e _ fun H2 e2 => ⟨a, List.append_nil _, hp H2 (e.trans e2), fun p H3 hp e3 h3 => q p H3 (fresh_back e2 hp) (e2.trans e3) h3⟩
theorem el_c2 {A : α → β → List V} {pre : α → β → Hp → Prop} {val : α → β → List V} {a : α} {b : β} (h : EvA ta σ H (A a b)) (hp : ∀ H1, Ex H H1 → pre a b H1) : EvL (tCall (sl2 A pre val) [] E ta) σ H (val a b) := fun H1 e Q q =>
  h H1 e _ fun H2 e2 => ⟨a, b, List.append_nil _, hp H2 (e.trans e2), fun p H3 hp e3 h3 => q p H3 (fresh_back e2 hp) (e2.trans e3) h3⟩
theorem el_c3 {A : α → β → γ → List V} {pre : α → β → γ → Hp → Prop} {val : α → β → γ → List V} {a : α} {b : β} {c : γ} (h : EvA ta σ H (A a b c)) (hp : ∀ H1, Ex H H1 → pre a b c H1) : EvL (tCall (sl3 A pre val) [] E ta) σ H (val a b c) := fun H1 e Q q =>
  h H1 e _ fun H2 e2 => ⟨a, b, c, List.append_nil _, hp H2 (e.trans e2), fun p H3 hp e3 h3 => q p H3 (fresh_back e2 hp) (e2.trans e3) h3⟩
/-- a call one of whose arguments is a new list: f([..]) -/
theorem ev_c1L {τ : Type} {te : TE} {A : Addr → List τ → List V} {pre : Addr → List τ → Hp → Prop} {val : Addr → List τ → V} {v : V} {xs : List V} (h : EvL te σ H xs) (ns : List τ) (hA : ∀ p, A p ns = [.ref p]) (hp : ∀ p H1, Ex H H1 → H1 p = some (.lst xs) → pre p ns H1) (hv : ∀ p, val p ns = v) :
    Ev (tCall (sp2 A pre val) [] E (tCons te tNil)) σ H v := fun H1 e Q q =>
  h H1 e _ fun p H2 hn e2 h2 => ⟨p, ns, by rw [hA]; rfl, hp p H2 (e.trans e2) h2, fun H3 e3 => by
    rw [hv]
    exact q H3 (e2.trans e3)⟩
end

/-! ### a def that may be called by its name -/
structure Cl (P : Program) (w : World) (K : PySem.W.Frag) (mg : Str → Option Value) (base : Heap) (k : Nat) (x : Str) (sp : Sp) : Prop where
  ex : ∃ (f : Addr) (fd : FuncData) (ps : List Str), FnOk P w K mg base CX0 k f fd ps sp ∧ mg x = some (.ref f) ∧ PySem.W.keepIn K (.ref f) = true ∧ Binds K fd ps []
section
variable {P : Program} {w : World} {K : PySem.W.Frag} {mg : Str → Option Value} {base : Heap}
theorem cl_of {k : Nat} {x : Str} {sp : Sp} {st : Stmt} {f : Addr} {fd : FuncData} {ps : List Str} (ok : FnOk P w K mg base CX0 k f fd ps sp) (F : Fun K x x st f fd) (g : mg x = some (.ref f)) (b : Binds K fd ps []) : Cl P w K mg base k x sp := ⟨f, fd, ps, ok, g, F.kp, b⟩
variable {X : Cx} {k j : Nat} {x : Str} {sp : Sp} {p pos : Pos} {e : Expr} {es : List Expr} {t : TA}
theorem pe_cl (c : Cl X.prog X.w X.K X.mg X.base k x sp) (hr : Room j X.A) (hk : k ≤ j) (hg : Gl X x) (ha : PA X (e :: es) t)
    (hdb : (x == ("__debug__" : Str)) = false := by decide) (he : starEach (e :: es) X.env = (false, eval e X.env) :: starEach es X.env := by rfl) (hpl : (backTo pos (starEach es X.env)).any (·.1) = false := by rfl) :
    PE X (.Call (.Name x p) (e :: es) [] pos) (tCall sp [] E0 t) := by
  obtain ⟨f, fd, ps, F, hm, kp, b⟩ := c.ex
  exact pe_call F (hr.mono hk) hg hm kp b .nil pass0 ha hdb he hpl
theorem pe_cl0 (c : Cl X.prog X.w X.K X.mg X.base k x sp) (hr : Room j X.A) (hk : k ≤ j) (hg : Gl X x)
    (hdb : (x == ("__debug__" : Str)) = false := by decide) :
    PE X (.Call (.Name x p) [] [] pos) (tCall sp [] E0 tNil) := by
  obtain ⟨f, fd, ps, F, hm, kp, b⟩ := c.ex
  exact pe_call0 F (hr.mono hk) hg hm kp b .nil pass0 hdb
end
end Kn
/-! ### values, step by step -/
namespace Kn
open PySem PySem.Spec PyProof.Rows L2 Evl SX
section
variable {H : Hp}
theorem rv_eqI {a b : Int} : RV rEq (.int a) (.int b) H (.bl (decide (a = b))) := fun H1 _ _ q => ⟨rfl, by
  have e : decide (V.int a = V.int b) = decide (a = b) := by simp
  rw [e]
  exact q H1 (Ex.refl H1)⟩
theorem rv_neI {a b : Int} : RV rNe (.int a) (.int b) H (.bl (!decide (a = b))) := fun H1 _ _ q => ⟨rfl, by
  have e : decide (V.int a = V.int b) = decide (a = b) := by simp
  rw [e]
  exact q H1 (Ex.refl H1)⟩
theorem dec_S {a b : List Nat} : decide (V.str (S a) = V.str (S b)) = decide (a = b) := by
  by_cases h : a = b
  · subst h
    simp
  · rw [decide_eq_false h, decide_eq_false (fun e => h (S_inj (V.str.inj e)))]
theorem rv_eqS {a b : List Nat} : RV rEq (.str (S a)) (.str (S b)) H (.bl (decide (a = b))) := fun H1 _ _ q => ⟨rfl, by
  rw [dec_S]
  exact q H1 (Ex.refl H1)⟩
theorem rv_neS {a b : List Nat} : RV rNe (.str (S a)) (.str (S b)) H (.bl (!decide (a = b))) := fun H1 _ _ q => ⟨rfl, by
  rw [dec_S]
  exact q H1 (Ex.refl H1)⟩
theorem rv_le {a b : Int} : RV (rI0 fun i j => .bl (decide (i ≤ j))) (.int a) (.int b) H (.bl (decide (a ≤ b))) := rv_I0
theorem rv_lt {a b : Int} : RV (rI0 fun i j => .bl (decide (i < j))) (.int a) (.int b) H (.bl (decide (a < b))) := rv_I0
theorem rv_inS {c : Nat} {l : List Nat} : RV rInS (.str (S [c])) (.str (S l)) H (.bl (decide (c ∈ l))) := fun H1 _ _ q => ⟨c, S l, rfl, rfl, q H1 (Ex.refl H1)⟩
theorem rv_ninS {c : Nat} {l : List Nat} : RV rNotInS (.str (S [c])) (.str (S l)) H (.bl (!decide (c ∈ l))) := fun H1 _ _ q => ⟨c, S l, rfl, rfl, q H1 (Ex.refl H1)⟩
end
end Kn
/-! ### lists cut, texts cut, constants -/
namespace Kn
open PySem PySem.Spec PyProof.Rows L2 Evl SX
theorem cut_nat {α : Type} (xs : List α) (a b : Nat) : (xs.drop (min a xs.length)).take (min b xs.length - min a xs.length) = (xs.drop a).take (b - a) := by
  by_cases h : a ≤ xs.length
  · have e : min a xs.length = a := Nat.min_eq_left h
    rw [e, List.take_eq_take_iff, List.length_drop]
    omega
  · have e : xs.drop a = [] := List.drop_of_length_le (by omega)
    have e2 : xs.drop (min a xs.length) = [] := List.drop_of_length_le (by omega)
    rw [e, e2, List.take_nil, List.take_nil]
theorem cutV_nat {xs : List V} (a b : Nat) : cutV xs (some (a : Int)) (some (b : Int)) = (xs.drop a).take (b - a) := by
  unfold cutV
  rw [HT.sIx_nat, HT.sIx_nat]
  exact cut_nat xs a b
theorem cutV_map {τ : Type} {g : τ → V} {ns : List τ} {i j : Int} (a b : Nat) (hi : i = (a : Int)) (hj : j = (b : Int)) : cutV (ns.map g) (some i) (some j) = ((ns.drop a).take (b - a)).map g := by
  subst hi hj
  rw [cutV_nat, List.map_take, List.map_drop]
theorem join_nil : ∀ ys : List (List Nat), TL.joinL [] ys = ys.flatten
  | [] => rfl
  | [p] => by rw [List.flatten_cons, List.flatten_nil, List.append_nil]; rfl
  | p :: q :: r => by
    show p ++ ([] ++ TL.joinL [] (q :: r)) = _
    rw [join_nil (q :: r), List.nil_append, List.flatten_cons (l := p)]
section
variable {K : PySem.W.Frag} {σ : L2.St} {H H' : Hp} {ta tb te tc : TE} {t u : TT} {x y z v : V}
theorem ev_cS {x : Str} {l : List Nat} (h : x.cps.toList = l) : Ev (tC (.str x)) σ H (.str (S l)) := by
  rw [S1 x h]
  exact ev_c
theorem el_slN {τ : Type} {g : τ → V} {ns : List τ} {i j : Int} {p : Addr} {to tp : TO} (h : Ev te σ H (.ref p)) (h1 : EvO to σ H (some i)) (h2 : EvO tp σ H (some j)) (hs : SqL K H p (ns.map g)) (a b : Nat) (hi : i = (a : Int)) (hj : j = (b : Int)) :
    EvL (tSl (rSlL K) te to tp) σ H (((ns.drop a).take (b - a)).map g) := by
  rw [← cutV_map a b hi hj]
  exact el_sl h h1 h2 hs
theorem ev_slTo {to tp : TO} {l : List Nat} {i : Int} (h : Ev te σ H (.str (S l))) (h1 : EvO to σ H none) (h2 : EvO tp σ H (some i)) (hz : l.length ≤ 100000) (hi : 0 ≤ i) : Ev (tSl rSlS te to tp) σ H (.str (S (l.take i.toNat))) := by
  have k := ev_slS h h1 h2 hz
  rw [C8.cutS_slice, slice_to hi] at k
  exact k
theorem ev_slFrom {to tp : TO} {l : List Nat} {i : Int} (h : Ev te σ H (.str (S l))) (h1 : EvO to σ H (some i)) (h2 : EvO tp σ H none) (hz : l.length ≤ 100000) (hi : 0 ≤ i) : Ev (tSl rSlS te to tp) σ H (.str (S (l.drop i.toNat))) := by
  have k := ev_slS h h1 h2 hz
  rw [C8.cutS_slice, slice_from hi] at k
  exact k
theorem ev_isiB {b : Bool} (ha : Ev ta σ H (.bl b)) : Ev (tCB (rIsi K) (tCons ta (tCons (tC (.ty "bool")) tNil))) σ H (.bl true) := ev_isi (T := "bool") ha (.base (.bl b)) (by decide +kernel) fun _ _ => .base (.bl b)
/-- == of two lists of data -/
theorem eqv_lists {xs ys : List PyData} (h : PyData.eqv (.list xs) (.list ys) = b) : PyData.eqv (.list xs) (.list ys) = b := h
end
end Kn
namespace Kn
open PySem PySem.Spec PyProof.Rows L2 Evl SX
section
variable {K : PySem.W.Frag} {σ : L2.St} {H H' : Hp} {ta tb te tc : TE} {t u : TT} {x y z v : V} {D : Ends} {tu tw tz : TS}
/-- an if whose two ways meet again -/
theorem q_ifM {b : Bool} (M : L2.St → Hp → Prop) (h : EvT t σ H b) (h1 : b = true → ∀ H1, Ex H H1 → ∀ N : L2.St → Hp → Prop, (∀ σ' H', M σ' H' → N σ' H') → tu { D with nx := N } σ H1)
    (h2 : b = false → ∀ H1, Ex H H1 → ∀ N : L2.St → Hp → Prop, (∀ σ' H', M σ' H' → N σ' H') → tw { D with nx := N } σ H1) (k : ∀ σ' H', M σ' H' → tz D σ' H') : tSeq (tIfS t tu tw) tz D σ H :=
  s_if (D := { D with nx := tz D }) h (fun hb H1 e => h1 hb H1 e _ k) (fun hb H1 e => h2 hb H1 e _ k)
theorem s_next (h : D.nx σ H) : tNext D σ H := h
theorem eqD_true {p q : Addr} {xs : List V} {ds : List PyData} (hp : SqL K H p xs) (hq : SqL K H q xs) (hd : ∀ H1, Ex H H1 → DpAll K H1 xs ds) (hs : SeqAt.shaped (.list ds) = true) (hl : PyData.eqv (.list ds) (.list ds) = true) : RV (rEqD K) (.ref p) (.ref q) H (.bl true) := fun H1 e Q k =>
  ⟨.list ds, .list ds, .lst (ex_l e hp) (hd H1 e), .lst (ex_l e hq) (hd H1 e), hs, hs, by rw [hl]; exact k H1 (Ex.refl H1)⟩
end
end Kn
/-! ### rpartition; joins; more of lists -/
namespace Kn
open PySem PySem.Spec PyProof.Rows L2 Evl SX
def rRpart : V → List V → Hp → VK → Prop := fun x xs H Q => ∃ a b, x = .str a ∧ xs = [.str b] ∧ (b.length == 0) = false ∧ a.length ≤ sizeLine ∧ ∀ p, H p = none → Q (.ref p) (upd H p (.tup [.str (Txt.rpartition a b).1, .str (Txt.rpartition a b).2.1, .str (Txt.rpartition a b).2.2]))
theorem mt_rpartition {X : Cx} : MtR X "str.rpartition" rRpart := by
  intro pins s σ H x xs v us Q I rx rs h
  obtain ⟨a, b, rfl, rfl, hb, hz, h⟩ := h
  obtain ⟨t, rfl⟩ := rx
  cases rs with
  | cons r1 rs =>
    cases rs
    obtain ⟨u, rfl⟩ := r1
    refine call_meets F.slot_str_rpartition (typeIs_str _ _ _) F.entry_str_rpartition (F.args_str_rpartition_2 _ _) (meets_str_rpartition a b t u hb hz) ?_
    unfold Txt.rpartition at h
    revert h
    cases Builtin.Str.lastOccurrence a b 0 a.length with
    | none => intro h; exact laid_parts I h
    | some i => intro h; exact laid_parts I h
section
variable {K : PySem.W.Frag} {σ : L2.St} {H H' : Hp} {ta tb te tc : TE} {t u : TT} {x y z v : V}
theorem ev_rpart0 {l m : List Nat} (ha : Ev ta σ H (.str (S l))) (hb : Ev tb σ H (.str (S m))) (hm : m ≠ []) (hl : l.length ≤ 100000) : Ev (tOp (rIxT K) (tM1 rRpart ta tb) (tC (.int 0))) σ H (.str (Txt.rpartition (S l) (S m)).1) := fun H1 e Q q =>
  ha H1 e _ fun H2 e2 => ⟨⟨_, rfl⟩, hb H2 (e.trans e2) _ fun H3 e3 => ⟨S l, S m, rfl, rfl, by
    rw [S_len]
    cases m with
    | nil => exact absurd rfl hm
    | cons a r => rfl, by rw [S_len]; exact sz_of hl, fun p hp =>
      ⟨p, _, 0, _, rfl, rfl, st_of upd_same, atI_nat (j := 0) rfl, q _ ((e2.trans e3).trans (Ex.new hp))⟩⟩⟩
theorem ev_joinV {s : List Nat} {ys : List (List Nat)} {p : Addr} (hs : Ev ta σ H (.str (S s))) (hl : Ev tb σ H (.ref p)) (hp : SqL K H p (ys.map fun l => V.str (S l))) (hz : (ys.map (·.length)).sum + ys.length * s.length ≤ 16777216) : Ev (tM1 (rJoin K) ta tb) σ H (.str (S (TL.joinL s ys))) := fun H1 e Q q =>
  hs H1 e _ fun H2 e2 => ⟨⟨_, rfl⟩, hl H2 (e.trans e2) _ fun H3 e3 => ⟨S s, p, ys.map S, rfl, rfl, .inl (by rw [List.map_map]; exact ex_l ((e.trans e2).trans e3) hp), by
    rw [SX.lens, List.length_map, S_len]
    exact hz, by
    rw [SX.join_S]
    exact q H3 (e2.trans e3)⟩⟩
theorem el_slTo {τ : Type} {g : τ → V} {ns : List τ} {j : Int} {p : Addr} {to tp : TO} (h : Ev te σ H (.ref p)) (h1 : EvO to σ H none) (h2 : EvO tp σ H (some j)) (hs : SqL K H p (ns.map g)) (b : Nat) (hj : j = (b : Int)) :
    EvL (tSl (rSlL K) te to tp) σ H ((ns.take b).map g) := by
  have e : cutV (ns.map g) none (some j) = (ns.take b).map g := by
    subst hj
    have k := cutV_nat (xs := ns.map g) 0 b
    unfold cutV at k ⊢
    rw [HT.sIx_none, HT.sIx_nat]
    rw [HT.sIx_nat, HT.sIx_nat, Nat.zero_min] at k
    rw [k, List.drop_zero, Nat.sub_zero, List.map_take]
  rw [← e]
  exact el_sl h h1 h2 hs
theorem ev_isiL {p : Addr} {xs : List V} (ha : Ev ta σ H (.ref p)) (h : H p = some (.lst xs)) : Ev (tCB (rIsi K) (tCons ta (tCons (tC (.ty "list")) tNil))) σ H (.bl true) := ev_isi (T := "list") ha (.base (.lst h)) (by decide +kernel) fun _ e => .base (.lst (e _ _ h))
theorem ev_isiS {l : Str} (ha : Ev ta σ H (.str l)) : Ev (tCB (rIsi K) (tCons ta (tCons (tC (.ty "str")) tNil))) σ H (.bl true) := ev_isi (T := "str") ha (.base (.str l)) (by decide +kernel) fun _ _ => .base (.str l)
theorem rv_ge {a b : Int} : RV (rI0 fun i j => .bl (decide (j ≤ i))) (.int a) (.int b) H (.bl (decide (b ≤ a))) := rv_I0
theorem rv_gt {a b : Int} : RV (rI0 fun i j => .bl (decide (j < i))) (.int a) (.int b) H (.bl (decide (b < a))) := rv_I0
theorem rv_pow {i j : Int} (h : CPow i j) : RV (rI CPow fun i j => .int (i ^ j.toNat)) (.int i) (.int j) H (.int (i ^ j.toNat)) := rv_I h
end
theorem joinL_snoc (s x : List Nat) : ∀ {l : List (List Nat)}, l ≠ [] → TL.joinL s (l ++ [x]) = TL.joinL s l ++ (s ++ x)
  | [], h => absurd rfl h
  | [p], _ => rfl
  | p :: q :: r, _ => by
    show p ++ (s ++ TL.joinL s ((q :: r) ++ [x])) = (p ++ (s ++ TL.joinL s (q :: r))) ++ (s ++ x)
    rw [joinL_snoc s x (List.cons_ne_nil q r)]
    simp only [List.append_assoc]
theorem joinL_ne {s p : List Nat} {r : List (List Nat)} (h : p ≠ []) : TL.joinL s (p :: r) ≠ [] := by
  cases r with
  | nil => exact h
  | cons q r =>
    intro z
    have : p ++ (s ++ TL.joinL s (q :: r)) = [] := z
    exact h (List.append_eq_nil_iff.mp this).1
theorem joinL_len (s : List Nat) : ∀ l : List (List Nat), (TL.joinL s l).length ≤ (l.map (·.length)).sum + l.length * s.length
  | [] => Nat.zero_le _
  | [p] => by
    show p.length ≤ p.length + 0 + 1 * s.length
    omega
  | p :: q :: r => by
    have ih := joinL_len s (q :: r)
    show (p ++ (s ++ TL.joinL s (q :: r))).length ≤ p.length + ((q :: r).map (·.length)).sum + ((q :: r).length + 1) * s.length
    rw [List.length_append, List.length_append, Nat.succ_mul]
    omega
theorem sum_le {l : List (List Nat)} {n : Nat} (h : ∀ p ∈ l, p.length ≤ n) : (l.map (·.length)).sum ≤ l.length * n := by
  induction l with
  | nil => simp
  | cons p r ih =>
    have h1 := h p List.mem_cons_self
    have h2 := ih fun q hq => h q (List.mem_cons_of_mem _ hq)
    rw [List.map_cons, List.sum_cons, List.length_cons, Nat.succ_mul]
    omega
theorem at_one {l : List Nat} {c i : Nat} : StrLaws.At (S l) (S [c]) (S l).length i ↔ l[i]? = some c := by
  rw [TL.at_iff (x := S l) (y := S [c]) (List.cons_ne_nil _ _)]
  show ((l.drop i).take 1 == [c]) = true ↔ l[i]? = some c
  rw [beq_iff_eq]
  constructor
  · intro h
    have e := congrArg (fun z : List Nat => z[0]?) h
    simpa using e
  · intro h
    obtain ⟨hi, e⟩ := List.getElem?_eq_some_iff.mp h
    rw [List.drop_eq_getElem_cons hi, e]
    rfl
theorem rpart_none {l : List Nat} {c : Nat} (h : c ∉ l) : (Txt.rpartition (S l) (S [c])).1 = S [] := by
  unfold Txt.rpartition
  rcases StrLaws.last_spec (S l) (S [c]) with ⟨h0, hn⟩ | ⟨i, h0, hi, hn⟩
  · rw [h0]
    rfl
  · exact absurd (List.mem_of_getElem? (at_one.mp hi)) h
theorem rpart_some {p q : List Nat} {c : Nat} (h : c ∉ q) : (Txt.rpartition (S (p ++ c :: q)) (S [c])).1 = S p := by
  have hp : (p ++ c :: q)[p.length]? = some c := by simp
  unfold Txt.rpartition
  rcases StrLaws.last_spec (S (p ++ c :: q)) (S [c]) with ⟨h0, hn⟩ | ⟨i, h0, hi, hn⟩
  · exact absurd (at_one.mpr hp) (hn _)
  · rw [h0]
    have e : i = p.length := by
      have h1 := at_one.mp hi
      rcases Nat.lt_trichotomy i p.length with z | z | z
      · exact absurd (at_one.mpr hp) (hn _ z)
      · exact z
      · rw [List.getElem?_append_right (by omega)] at h1
        obtain ⟨k, hk⟩ : ∃ k, i - p.length = k + 1 := ⟨i - p.length - 1, by omega⟩
        rw [hk, List.getElem?_cons_succ] at h1
        exact absurd (List.mem_of_getElem? h1) h
    subst e
    show PySem.Builtin.Str.strSub (S (p ++ c :: q)) 0 p.length = S p
    refine TL.ext_tl ?_
    rw [TL.tl_strSub]
    show ((p ++ c :: q).drop 0).take (p.length - 0) = p
    simp
end Kn
/-! ### rules that name the written part: for the elements of a comprehension -/
namespace Kn
open PySem PySem.Spec PyProof.Rows L2 Evl SX
section
variable {X : Cx} {K : PySem.W.Frag}
theorem sl_listK (h : X.K = K) : SlR X (rSlL K) := by subst h; exact sl_list
theorem sl_tupK (h : X.K = K) : SlR X (rSlT K) := by subst h; exact sl_tup
theorem ix_listK (h : X.K = K) : IxR X (rIxL K) := by subst h; exact ix_list
theorem ix_tupK (h : X.K = K) : IxR X (rIxT K) := by subst h; exact ix_tup
theorem cr_lenSeqK (h : X.K = K) : CallR X (.builtin "len") (rLenS K) := by subst h; exact cr_lenSeq
theorem cr_isiK (h : X.K = K) : CallR X (.builtin "isinstance") (rIsi K) := by subst h; exact cr_isi
theorem cr_allK (h : X.K = K) (hc : X.calm = true) : CallR X (.builtin "all") (rAll K) := by subst h; exact cr_all hc
theorem op_in_seqK (h : X.K = K) : OpR X (compareOp .In) (rIn K false) := by subst h; exact op_in_seq
theorem op_notIn_seqK (h : X.K = K) : OpR X (compareOp .NotIn) (rIn K true) := by subst h; exact op_notIn_seq
theorem pe_joinK {e : Expr} {to te : TE} (hK : X.K = K) (h : PE X e (tM1 (fun x xs H Q => ∃ a p, ∃ ys : List Str, x = .str a ∧ xs = [.ref p] ∧ (SqL X.K H p (ys.map V.str) ∨ SqT X.K H p (ys.map V.str)) ∧ (ys.map (·.length)).sum + ys.length * a.length ≤ 16777216 ∧ Q (.str (Txt.join a ys)) H) to te)) : PE X e (tM1 (rJoin K) to te) := by
  subst hK
  exact h
end
end Kn
/-! ### texts: split, count, startswith, replace; loops over signs -/
namespace Kn
open PySem PySem.Spec PyProof.Rows L2 Evl SX
def rSplit : V → List V → Hp → VK → Prop := fun x xs H Q => ∃ a b, x = .str a ∧ xs = [.str b] ∧ (b.length == 0) = false ∧ a.length + 2 ≤ sizeLine ∧ rNewStrs (Txt.split a b) H Q
theorem mt_split {X : Cx} : MtR X "str.split" rSplit := L2.mt_split
def rCount : V → List V → Hp → VK → Prop := fun x xs H Q => ∃ a b, x = .str a ∧ xs = [.str b] ∧ Q (.int (Txt.count a b)) H
theorem mt_count {X : Cx} : MtR X "str.count" rCount := L2.mt_count
def rStarts : V → List V → Hp → VK → Prop := fun x xs H Q => ∃ a b, x = .str a ∧ xs = [.str b] ∧ Q (.bl (Txt.startswith a b)) H
theorem mt_startswith {X : Cx} : MtR X "str.startswith" rStarts := L2.mt_startswith
def rEnds : V → List V → Hp → VK → Prop := fun x xs H Q => ∃ a b, x = .str a ∧ xs = [.str b] ∧ Q (.bl (Txt.endswith a b)) H
theorem mt_endswith {X : Cx} : MtR X "str.endswith" rEnds := L2.mt_endswith
/-- l cut at each c -/
def cut1 (c : Nat) (l : List Nat) : List (List Nat) := TL.spl [c] 0 [] l
theorem starts_one {l : List Nat} {c : Nat} : Txt.startswith (S l) (S [c]) = decide (l[0]? = some c) := by
  have h : StrLaws.At (S l) (S [c]) (S l).length 0 ↔ l[0]? = some c := at_one
  unfold Txt.startswith
  rw [Bool.eq_iff_iff, Bool.and_eq_true, decide_eq_true_eq, decide_eq_true_eq]
  exact h
theorem count_one {l : List Nat} {c : Nat} : Txt.count (S l) (S [c]) = cnt c l := count_is (S l) c
theorem spl_map {c : Nat} {f : Nat → Nat} (hc : ∀ d, f d = c ↔ d = c) : ∀ (l acc : List Nat), TL.spl [c] 0 (acc.map f) (l.map f) = (TL.spl [c] 0 acc l).map (List.map f)
  | [], acc => rfl
  | d :: r, acc => by
    by_cases e : d = c
    · have h1 : TL.pre [c] (d :: r) = true := by
        subst e
        exact TL.pre_self [d] r
      have h2 : TL.pre [c] (f d :: r.map f) = true := by
        have e2 := (hc d).mpr e
        rw [e2]
        exact TL.pre_self [c] (r.map f)
      rw [List.map_cons, TL.spl_hit h1, TL.spl_hit h2, List.map_cons]
      exact congrArg (fun z => acc.map f :: z) (spl_map hc r [])
    · have h1 : TL.pre [c] (d :: r) = false := TL.pre_of_head [] r e
      have h2 : TL.pre [c] (f d :: r.map f) = false := TL.pre_of_head [] _ fun z => e ((hc d).mp z)
      rw [List.map_cons, TL.spl_miss h1, TL.spl_miss h2, ← spl_map hc r (acc ++ [d]), List.map_append]
      rfl
theorem cut1_map {c : Nat} {f : Nat → Nat} (hc : ∀ d, f d = c ↔ d = c) (l : List Nat) : cut1 c (l.map f) = (cut1 c l).map (List.map f) := spl_map hc l []
/-- each sign but c is in a part -/
theorem spl_mem {c d : Nat} (hd : d ≠ c) : ∀ (l acc : List Nat), d ∈ acc ∨ d ∈ l → ∃ p ∈ TL.spl [c] 0 acc l, d ∈ p
  | [], acc, h => by
    rcases h with h | h
    · exact ⟨acc, List.mem_cons_self, h⟩
    · exact nomatch h
  | e :: r, acc, h => by
    by_cases ec : e = c
    · have h1 : TL.pre [c] (e :: r) = true := by
        subst ec
        exact TL.pre_self [e] r
      rw [TL.spl_hit h1]
      rcases h with h | h
      · exact ⟨acc, List.mem_cons_self, h⟩
      · rcases List.mem_cons.mp h with z | z
        · exact absurd (z.trans ec) hd
        · obtain ⟨p, hp, hm⟩ := spl_mem hd r [] (.inr z)
          exact ⟨p, List.mem_cons_of_mem _ hp, hm⟩
    · rw [TL.spl_miss (TL.pre_of_head [] r ec)]
      refine spl_mem hd r (acc ++ [e]) ?_
      rcases h with h | h
      · exact .inl (List.mem_append_left _ h)
      · rcases List.mem_cons.mp h with z | z
        · exact .inl (List.mem_append_right _ (by rw [z]; exact List.mem_cons_self))
        · exact .inr z
theorem cut1_mem {c d : Nat} (hd : d ≠ c) {l : List Nat} (h : d ∈ l) : ∃ p ∈ cut1 c l, d ∈ p := spl_mem hd l [] (.inr h)
theorem spl_bound (c : Nat) : ∀ (l acc : List Nat), (TL.spl [c] 0 acc l).length ≤ l.length + 1 ∧ ∀ p ∈ TL.spl [c] 0 acc l, p.length ≤ acc.length + l.length
  | [], acc => ⟨Nat.le_refl _, fun p hp => by rw [List.mem_singleton.mp hp]; exact Nat.le_add_right _ _⟩
  | e :: r, acc => by
    by_cases ec : e = c
    · have h1 : TL.pre [c] (e :: r) = true := by
        subst ec
        exact TL.pre_self [e] r
      have ih := spl_bound c r []
      rw [TL.spl_hit h1]
      refine ⟨Nat.succ_le_succ ih.1, fun p hp => ?_⟩
      rcases List.mem_cons.mp hp with z | z
      · rw [z]
        omega
      · have := ih.2 p z
        rw [List.length_cons]
        simp at this
        omega
    · have ih := spl_bound c r (acc ++ [e])
      rw [TL.spl_miss (TL.pre_of_head [] r ec)]
      refine ⟨by have := ih.1; rw [List.length_cons]; omega, fun p hp => ?_⟩
      have := ih.2 p hp
      rw [List.length_append] at this
      rw [List.length_cons]
      simp at this
      omega
theorem cut1_len (c : Nat) (l : List Nat) : (cut1 c l).length ≤ l.length + 1 := (spl_bound c l []).1
theorem cut1_part {c : Nat} {l p : List Nat} (h : p ∈ cut1 c l) : p.length ≤ l.length := by
  have := (spl_bound c l []).2 p h
  simpa using this
theorem repl_one {c d : Nat} : ∀ l : List Nat, StrLaws.replL [c] [d] l = l.map fun e => if e = c then d else e
  | [] => StrLaws.replL_nil
  | e :: r => by
    by_cases h : e = c
    · subst h
      rw [StrLaws.replL_hit (List.cons_ne_nil _ _) rfl, List.map_cons, if_pos rfl, ← repl_one r]
      rfl
    · rw [StrLaws.replL_miss (y := [c]) (show ¬ (e :: r).take [c].length = [c] from fun z => h (List.cons.inj (show e :: r.take 0 = [c] from z)).1), List.map_cons, if_neg h, repl_one r]
theorem replace_S {l : List Nat} {c d : Nat} : Txt.replace (S l) (S [c]) (S [d]) = S (l.map fun e => if e = c then d else e) := by
  refine TL.ext_tl ?_
  show (Txt.replace (S l) (S [c]) (S [d])).cps.toList = _
  exact (StrLaws.replace_list (show 1 ≤ (S [c]).length from Nat.le_refl 1)).trans (repl_one l)
section
variable {K : PySem.W.Frag} {σ : L2.St} {H H' : Hp} {ta tb te tc : TE} {t u : TT} {x y z v : V} {D : Ends} {tu tz : TS}
theorem el_split {l : List Nat} {c : Nat} (ha : Ev ta σ H (.str (S l))) (hb : Ev tb σ H (.str (S [c]))) (hc : c < 256) (hl : l.length ≤ 90000) : EvL (tM1 rSplit ta tb) σ H ((cut1 c l).map fun p => V.str (S p)) := fun H1 e Q q =>
  ha H1 e _ fun H2 e2 => ⟨⟨_, rfl⟩, hb H2 (e.trans e2) _ fun H3 e3 => ⟨S l, S [c], rfl, rfl, rfl, sz_of (by rw [S_len]; omega), fun p hp => by
    rw [SX.split_S (List.cons_ne_nil _ _) (by simp [hc]), List.map_map]
    exact q p _ (fresh_back (e2.trans e3) hp) ((e2.trans e3).trans (Ex.new hp)) upd_same⟩⟩
theorem ev_count {l : List Nat} {c : Nat} (ha : Ev ta σ H (.str (S l))) (hb : Ev tb σ H (.str (S [c]))) : Ev (tM1 rCount ta tb) σ H (.int (cnt c l)) := fun H1 e Q q =>
  ha H1 e _ fun H2 e2 => ⟨⟨_, rfl⟩, hb H2 (e.trans e2) _ fun H3 e3 => ⟨S l, S [c], rfl, rfl, by
    rw [count_one]
    exact q H3 (e2.trans e3)⟩⟩
theorem ev_starts {l : List Nat} {c : Nat} (ha : Ev ta σ H (.str (S l))) (hb : Ev tb σ H (.str (S [c]))) : Ev (tM1 rStarts ta tb) σ H (.bl (decide (l[0]? = some c))) := fun H1 e Q q =>
  ha H1 e _ fun H2 e2 => ⟨⟨_, rfl⟩, hb H2 (e.trans e2) _ fun H3 e3 => ⟨S l, S [c], rfl, rfl, by
    rw [starts_one]
    exact q H3 (e2.trans e3)⟩⟩
theorem ev_replC {l : List Nat} {s1 s2 : Str} {c d : Nat} (ha : Ev ta σ H (.str (S l))) (h1 : s1 = S [c]) (h2 : s2 = S [d]) (hl : l.length ≤ 100000) : Ev (CwR.tReplC ta s1 s2) σ H (.str (S (l.map fun e => if e = c then d else e))) := fun H1 e Q q => by
  subst h1 h2
  refine ha H1 e _ fun H2 e2 => ⟨S l, rfl, ?_, ?_⟩
  · rw [S_len, S_len]
    show l.length + (l.length + 1) * 1 ≤ 16777216
    omega
  · rw [replace_S]
    exact q H2 e2
theorem s_forS {l : List Nat} {ts : TE} {j : Nat} (h : Ev ts σ H (.str (S l))) (Pv : Nat → L2.St → Hp → Prop) (h0 : ∀ H1, Ex H H1 → Pv 0 σ H1)
    (hs : ∀ (i c : Nat) σ' H', l[i]? = some c → Pv i σ' H' → tu { D with nx := Pv (i + 1), ct := Pv (i + 1), bk := D.nx } (σ'.set j (some (.str (S [c])))) H') (hd : ∀ σ' H', Pv l.length σ' H' → D.nx σ' H') : tFor (iStr ts) (gName j) tu D σ H :=
  h H (Ex.refl H) _ fun H1 e => ⟨S l, rfl, for_it walk_str Pv (h0 H1 e) (fun _ _ _ _ _ => trivial) (fun i x σ' H2 H3 hi p y => by
    obtain ⟨rfl, c, hc, rfl⟩ := y
    have hc' : l[i]? = some c := by simpa [S] using hc
    exact hs i c σ' _ hc' p) (fun σ' H2 p => by
    have hl : (S l).cps.size = l.length := by simp [S]
    rw [hl] at p
    exact hd σ' H2 p)⟩
theorem q_forS {l : List Nat} {ts : TE} {j : Nat} (h : Ev ts σ H (.str (S l))) (Pv : Nat → L2.St → Hp → Prop) (h0 : ∀ H1, Ex H H1 → Pv 0 σ H1)
    (hs : ∀ (i c : Nat) σ' H', l[i]? = some c → Pv i σ' H' → tu { D with nx := Pv (i + 1), ct := Pv (i + 1), bk := tz D } (σ'.set j (some (.str (S [c])))) H') (hd : ∀ σ' H', Pv l.length σ' H' → tz D σ' H') : tSeq (tFor (iStr ts) (gName j) tu) tz D σ H :=
  s_forS (D := { D with nx := tz D }) h Pv h0 hs hd
end
/-! ### an expression behind which a token is out -/
section
variable {X : Cx} {a b e o : Expr} {ta tb te to : TE} {pos apos : Pos}
def PEb (X : Cx) (e : Expr) (t : TE) : Prop := ∀ (pins : List (Addr × Obj)) (s : Shared) (σ : L2.St) (H : Hp) (Q : VK), Inv X pins σ H s → t σ H Q → wpAny (model X.prog X.w) X.A (eval e X.env) (fun v s1 => 1 ≤ s1.toks ∧ EP X pins σ Q v s1) X.xe s
theorem keep_tok {α : Type} {t : Sem α} {Q : α → Shared → Prop} {E : Value → Shared → Prop} {P : Program} {w : World} {A : Around} {s : Shared} (h0 : 1 ≤ s.toks) (h : wpAny (model P w) A t Q E s) : wpAny (model P w) A t (fun a s' => 1 ≤ s'.toks ∧ Q a s') E s :=
  wpAny_mono (PySem.wpAny_toks h) (fun _ _ q => ⟨Nat.le_trans h0 q.1, q.2⟩) fun _ _ z => z.2
theorem peb_str {x : Str} {j : Nat} : PEb X (.Constant (.str x) j pos) (tC (.str x)) := fun _ s _ H _ I h => Calls.Constant_str ⟨by show 1 ≤ s.toks + 1; omega, .str x, H, I.tok _, ⟨_, rfl⟩, h⟩
theorem peb_m1 {id : String} {name : Str} {r : V → List V → Hp → VK → Prop} (slot : Slot "str" name id) (ty : typeOf (.builtin id) = pure (.type "method_descriptor")) (rule : MtR X id r) (ho : PE X o to) (he : PEb X e te)
    (hs : starEach [e] X.env = [(false, eval e X.env)] := by rfl) (hbase : attributeBase o name X.env (eval o X.env) = eval o X.env := by rfl) (hline : (apos.endLine == pos.line) = true := by rfl) :
    PEb X (.Call (.Attribute o name apos) [e] [] pos) (tM1 r to te) := by
  intro pins s σ H Q I h
  refine PySem.Call_method1 hbase hs hline (thn (ho.run pins s σ H _ I h) fun v s1 ⟨x, H1, I1, r1, q1⟩ => ?_)
  obtain ⟨⟨a, rfl⟩, q1⟩ := q1
  obtain ⟨t, rfl⟩ := _root_.id r1
  refine ⟨"str", _, F.plainAttrs_str, slot, ty, typeIs_str _ _ _, (fun _ e => nomatch e), Calls.callWith_builtin rfl (Calls.evalArgs_plain (Calls.spliced_cons ?_))⟩
  exact thn (he pins s1 σ H1 _ I1 q1) fun u s2 ⟨h2, y, H2, I2, r2, q2⟩ => Calls.spliced_nil (keep_tok h2 (rule pins s2 σ H2 _ [y] _ [u] Q I2 r1 (.cons r2 .nil) q2))
theorem peb_cmpR {op : CmpOp} {r : R2} (ho : OpR X (compareOp op) r) (ha : PEb X a ta) (hb : PE X b tb) (hm : behindInMarks op b = false) : PEb X (.Compare a [op] [b] pos) (tOp r ta tb) := by
  intro pins s σ H Q I h
  refine wpAny_Compare1 (thn (ha pins s σ H _ I h) fun v s1 ⟨h1, x, H1, I1, r1, q1⟩ => ?_) hm
  refine thn (keep_tok h1 (hb.run pins s1 σ H1 _ I1 q1)) fun u s2 ⟨h2, y, H2, I2, r2, q2⟩ => ?_
  exact keep_tok h2 (ho pins s2 σ H2 x y v u Q I2 r1 r2 q2)
theorem pe_andB (ha : PEb X a ta) (hb : L2.PET X b tb) : PE X (.BoolOp .And [a, b] pos) (tAndV ta tb) := by
  refine ⟨fun pins s σ H Q I h => ?_⟩
  refine BoolOp_and (thn (ha pins s σ H _ I h) fun v s1 ⟨h1, x, H1, I1, r1, q1⟩ => ?_)
  obtain ⟨c, rfl, q1⟩ := q1
  cases r1
  refine wpAny_truthy_bool ?_
  cases c with
  | true => exact BoolOp_one (hb pins s1 σ H1 Q h1 I1 q1)
  | false => exact ⟨.bl false, H1, I1, rfl, q1⟩
theorem pet_cl {k j : Nat} {x : Str} {sp : Sp} {p : Pos} {es : List Expr} {t : TA} (c : Cl X.prog X.w X.K X.mg X.base k x sp) (hr : Room j X.A) (hk : k ≤ j) (hg : Gl X x) (ha : L2.PAT X (e :: es) t)
    (hdb : (x == ("__debug__" : Str)) = false := by decide) (he : starEach (e :: es) X.env = (false, eval e X.env) :: starEach es X.env := by rfl) (hpl : (backTo pos (starEach es X.env)).any (·.1) = false := by rfl) :
    L2.PET X (.Call (.Name x p) (e :: es) [] pos) (tCall sp [] E0 t) := by
  intro pins s σ H Q h0 I h
  obtain ⟨f, fd, ps, F, hm, kp, b⟩ := c.ex
  refine wpAny_Call_Name_kw (ld_glob I hg hm ?_ hdb)
  refine PySem.W.callWith_K (h₀ := X.base) I.ok.mod.kin kp (thn (ha pos pins s σ H _ h0 I h) fun us s1 ⟨vs, H1, I1, r, q⟩ => ⟨I1.kIn, ?_⟩) he hpl
  exact run_fn F (hr.mono hk) b .nil pass0 I1 r q
end
end Kn
/-! ### methods, classes, dicts with text keys -/
namespace Kn
open PySem PySem.Spec PyProof.Rows L2 Evl SX
structure Mt (P : Program) (w : World) (K : PySem.W.Frag) (mg : Str → Option Value) (base : Heap) (k : Nat) (C : Addr) (m : Str) (sp : Sp) : Prop where
  ex : ∃ (f : Addr) (fd : FuncData) (ps : List Str), Cls K C ∧ Meth K C m f ∧ FnOk P w K mg base CX0 k f fd ps sp ∧ Binds K fd ps []
structure Mkr (P : Program) (w : World) (K : PySem.W.Frag) (mg : Str → Option Value) (base : Heap) (k : Nat) (x : Str) (C : Addr) (sp : Sp) : Prop where
  ex : ∃ (f : Addr) (fd : FuncData) (ps : List Str), Mk K C f ∧ FnOk P w K mg base CX0 k f fd ps sp ∧ mg x = some (.ref C) ∧ Binds K fd ps []
section
variable {X : Cx} {k j : Nat} {C : Addr} {x m : Str} {sp : Sp} {p pos apos : Pos} {e o : Expr} {es : List Expr} {ta : TE} {t : TA}
theorem pe_mt {pl : Sem Bool} (c : Mt X.prog X.w X.K X.mg X.base k C m sp) (hr : Room j X.A) (hk : k ≤ j) (he : PE X o ta) (ha : PA X (e :: es) t)
    (hst : starEach (e :: es) X.env = (false, eval e X.env) :: starEach es X.env := by rfl) (hpl : (backTo pos (starEach es X.env)).any (·.1) = false := by rfl)
    (ht : eval (.Call (.Attribute o m apos) (e :: es) [] pos) X.env = (do
      let ov ← eval o X.env
      standAt apos.atName
      let (f, first) ← holding [ov] (getMethod ov m pl)
      callWith pos f first (backTo pos (starEach (e :: es) X.env)) (backToKw pos (keywordEach [] X.env))) := by rfl) :
    PE X (.Call (.Attribute o m apos) (e :: es) [] pos) (tMeth C m sp [] E0 ta t) := by
  obtain ⟨f, fd, ps, hc, hm, F, b⟩ := c.ex
  exact pe_meth (pl := pl) he hc hm F (hr.mono hk) b .nil pass0 ha hst hpl ht
theorem pe_mt0 {pl : Sem Bool} (c : Mt X.prog X.w X.K X.mg X.base k C m sp) (hr : Room j X.A) (hk : k ≤ j) (he : PE X o ta)
    (ht : eval (.Call (.Attribute o m apos) [] [] pos) X.env = (do
      let ov ← eval o X.env
      standAt apos.atName
      let (f, first) ← holding [ov] (getMethod ov m pl)
      callWith pos f first (backTo pos (starEach [] X.env)) (backToKw pos (keywordEach [] X.env))) := by rfl) :
    PE X (.Call (.Attribute o m apos) [] [] pos) (tMeth C m sp [] E0 ta tNil) := by
  obtain ⟨f, fd, ps, hc, hm, F, b⟩ := c.ex
  exact pe_meth0 (pl := pl) he hc hm F (hr.mono hk) b .nil pass0 ht
theorem pe_mkr0 (c : Mkr X.prog X.w X.K X.mg X.base k x C sp) (hr : Room j X.A) (hk : k + 1 ≤ j) (hg : Gl X x) (hdb : (x == ("__debug__" : Str)) = false := by decide) :
    PE X (.Call (.Name x p) [] [] pos) (tMake C sp [] E0 tNil) := by
  obtain ⟨f, fd, ps, M, F, hm, b⟩ := c.ex
  exact pe_make0 M F (hr.mono hk) hg hm b .nil pass0 hdb
def rStrInt : List V → Hp → VK → Prop := fun xs H Q => ∃ i, xs = [.int i] ∧ i.natAbs.log2 < 1920 ∧ Q (.str (toString i)) H
theorem cr_strInt : CallR X (.type "str") rStrInt := call_str_int
def rSortD (K : PySem.W.Frag) : List V → Hp → VK → Prop := fun xs H Q => ∃ (a : Addr) (kvs : List (Key × V)) (ks : List Str), xs = [.ref a] ∧ Rd H a (.dK kvs) ∧ kvs.map (·.1) = ks.map Sum.inr ∧ ks.length < 64 ∧ ∀ ys p, ys.Perm ks → sortedS ys = true → H p = none → Q (.ref p) (upd H p (.lst (ys.map V.str)))
theorem cr_sortD (h : X.calm = true) : CallR X (.builtin "sorted") (rSortD X.K) := call_sortedD h
def rDictP (K : PySem.W.Frag) : List V → Hp → VK → Prop := fun xs H Q => ∃ (a : Addr) (ps : List Addr) (kvs : List (Key × V)), xs = [.ref a] ∧ SqL K H a (ps.map V.ref) ∧ Paired (fun p kv => SqT K H p [kV kv.1, kv.2]) ps kvs ∧ ∀ p, H p = none → Q (.ref p) (upd H p (.dK (mergeK [] kvs)))
theorem cr_dictP (h : X.calm = true) : CallR X (.type "dict") (rDictP X.K) := call_dictP h
end
section
variable {K : PySem.W.Frag} {σ : L2.St} {H H' : Hp} {ta tb td ty te tc tv : TE} {t u : TT} {x y z v : V} {D : Ends} {tu tw tz : TS} {C p d dx : Addr} {fs : List (Str × V)} {kvs : List (Key × V)} {k : List Nat}
theorem ev_fld {f : Str} (ha : Ev ta σ H (.ref p)) (ho : H p = some (.ins C dx fs)) (hc : Cls K C) (hn : NoAttr K C f) (hl : fs.lookup f = some v) : Ev (tFld K ta f) σ H v := fun H1 e Q q =>
  ha H1 e _ fun H2 e2 => ⟨p, C, dx, fs, v, rfl, (e.trans e2) _ _ ho, hc, hn, hl, q H2 e2⟩
theorem ev_meth {m : Str} {sp : Sp} {E : XK} {t : TA} {vs : List V} (ha : Ev ta σ H (.ref p)) (ho : H p = some (.ins C dx fs)) (hm : fs.lookup m = none) (h : EvA t σ H vs) (hs : SpV sp (.ref p :: vs) H z) : Ev (tMeth C m sp [] E ta t) σ H z := fun H1 e Q q =>
  ha H1 e _ fun H2 e2 => ⟨p, dx, fs, rfl, (e.trans e2) _ _ ho, hm, h H2 (e.trans e2) _ fun H3 e3 => by
    rw [List.append_nil]
    exact hs H3 ((e.trans e2).trans e3) Q (fun H4 e4 => q H4 ((e2.trans e3).trans e4)) E⟩
theorem ev_dget (h1 : Ev td σ H (.ref d)) (h2 : Ev ty σ H (.str (S k))) (hd : H d = some (.dK kvs)) (hv : valV kvs (Sum.inr (S k)) = some v) : Ev (tDGet td ty) σ H v := fun H1 e Q q =>
  h1 H1 e _ fun H2 e2 => h2 H2 (e.trans e2) _ fun H3 e3 => ⟨d, v, rfl, by
    have g := DGet.k (k := (Sum.inr (S k) : Key)) (((e.trans e2).trans e3) _ _ hd)
    rw [hv] at g
    exact g, q H3 (e2.trans e3)⟩
theorem ev_dget1 (h1 : Ev td σ H (.ref d)) (h2 : Ev ty σ H (.str (S k))) (hd : H d = some (.dK kvs)) : Ev (tDGet1 td ty) σ H ((valV kvs (Sum.inr (S k))).getD .non) := fun H1 e Q q =>
  h1 H1 e _ fun H2 e2 => ⟨d, rfl, .inl ⟨kvs, .inl ((e.trans e2) _ _ hd)⟩, h2 H2 (e.trans e2) _ fun H3 e3 => ⟨_, DGet.k (k := (Sum.inr (S k) : Key)) (((e.trans e2).trans e3) _ _ hd), q H3 (e2.trans e3)⟩⟩
theorem et_din (h2 : Ev ty σ H (.str (S k))) (h1 : Ev td σ H (.ref d)) (hd : H d = some (.dK kvs)) : EvT (tB (tDIn ty td)) σ H (valV kvs (Sum.inr (S k))).isSome := fun H1 e Q q =>
  h2 H1 e _ fun H2 e2 => h1 H2 (e.trans e2) _ fun H3 e3 => ⟨d, _, rfl, DGet.k (k := (Sum.inr (S k) : Key)) (((e.trans e2).trans e3) _ _ hd), _, rfl, q H3 (e2.trans e3)⟩
/-- d[k] = v -/
theorem s_dput (hv : Ev tv σ H v) (h1 : ∀ H1, Ex H H1 → Ev td σ H1 (.ref d)) (h2 : ∀ H1, Ex H H1 → Ev ty σ H1 (.str (S k))) (hd : H d = some (.dK kvs)) (hl : kvs.length < 100000) (q : ∀ H1, Ex H H1 → D.nx σ (upd H1 d (.dK (putK kvs (Sum.inr (S k)) v)))) : sDPut td ty tv D σ H :=
  hv H (Ex.refl H) _ fun H1 e1 => h1 H1 e1 H1 (Ex.refl H1) _ fun H2 e2 => h2 H2 (e1.trans e2) H2 (Ex.refl H2) _ fun H3 e3 => ⟨d, _, rfl, DPut.k (k := (Sum.inr (S k) : Key)) (((e1.trans e2).trans e3) _ _ hd) (sz_lt hl), q H3 ((e1.trans e2).trans e3)⟩
/-- d[k] = (a, ..), a new tuple -/
theorem s_dputU {xs : List V} (hv : EvU tv σ H xs) (h1 : ∀ H1, Ex H H1 → Ev td σ H1 (.ref d)) (h2 : ∀ H1, Ex H H1 → Ev ty σ H1 (.str (S k))) (hd : H d = some (.dK kvs)) (hl : kvs.length < 100000) (q : ∀ r H1, H r = none → Ex H H1 → H1 r = some (.tup xs) → D.nx σ (upd H1 d (.dK (putK kvs (Sum.inr (S k)) (.ref r))))) : sDPut td ty tv D σ H :=
  hv H (Ex.refl H) _ fun r H1 nr e1 hr => h1 H1 e1 H1 (Ex.refl H1) _ fun H2 e2 => h2 H2 (e1.trans e2) H2 (Ex.refl H2) _ fun H3 e3 => ⟨d, _, rfl, DPut.k (k := (Sum.inr (S k) : Key)) (((e1.trans e2).trans e3) _ _ hd) (sz_lt hl), q r H3 nr ((e1.trans e2).trans e3) (e3 _ _ (e2 _ _ hr))⟩
theorem et_isN (ha : Ev ta σ H x) : EvT (tTest (tOp rIsN ta (tC .non))) σ H (decide (x = .non)) := et_test (ev_op ha ev_c fun H1 _ Q q => ⟨rfl, q H1 (Ex.refl H1)⟩)
theorem et_notN (ha : Ev ta σ H x) : EvT (tTest (tOp rNotN ta (tC .non))) σ H (!decide (x = .non)) := et_test (ev_op ha ev_c fun H1 _ Q q => ⟨rfl, q H1 (Ex.refl H1)⟩)
theorem rv_ix0 {q : Addr} {xs : List V} {i : Nat} (h : SqT K H q xs) (hi : xs[i]? = some v) : RV (rIxT K) (.ref q) (.int (i : Int)) H v := rv_ixT h (atI_nat hi)
theorem ev_strInt {n : Nat} (ha : Ev ta σ H (.int (n : Int))) (hn : n < 1000) : Ev (tCB rStrInt (tCons ta tNil)) σ H (.str (S (TL.numL n))) := fun H1 e Q q =>
  ha H1 e _ fun H2 e2 => ⟨(n : Int), rfl, by
    rw [Int.natAbs_natCast]
    have : n.log2 < 10 := by
      by_cases h0 : n = 0
      · subst h0
        decide
      · exact (Nat.log2_lt h0).mpr (by omega)
    omega, by
    have z := num_S n
    rw [← z] at q
    exact q H2 e2⟩
end
end Kn
/-! ### lists of pairs with text keys: what a dict holds -/
namespace Kn
open PySem PySem.Spec PyProof.Rows L2 Evl SX
section
variable {α : Type}
def look (es : List (List Nat × α)) (k : List Nat) : Option α := (es.find? fun x => decide (x.1 = k)).map (·.2)
def put (es : List (List Nat × α)) (k : List Nat) (e : α) : List (List Nat × α) := if (es.any fun x => decide (x.1 = k)) = true then es.map (fun x => if x.1 = k then (x.1, e) else x) else es ++ [(k, e)]
theorem look_cons (x : List Nat × α) (r : List (List Nat × α)) (k : List Nat) : look (x :: r) k = if x.1 = k then some x.2 else look r k := by
  unfold look
  rw [List.find?_cons]
  by_cases h : x.1 = k
  · rw [decide_eq_true h, if_pos h]
    rfl
  · rw [decide_eq_false h, if_neg h]
theorem look_any (k : List Nat) : ∀ es : List (List Nat × α), (es.any fun x => decide (x.1 = k)) = (look es k).isSome
  | [] => rfl
  | x :: r => by
    rw [List.any_cons, look_cons, look_any k r]
    by_cases h : x.1 = k
    · rw [decide_eq_true h, if_pos h]
      rfl
    · rw [decide_eq_false h, if_neg h]
      rfl
theorem look_map (k j : List Nat) (e : α) : ∀ es : List (List Nat × α), look (es.map fun x => if x.1 = k then (x.1, e) else x) j = (look es j).map fun y => if j = k then e else y
  | [] => rfl
  | x :: r => by
    rw [List.map_cons, look_cons, look_cons, look_map k j e r]
    by_cases h : x.1 = k
    · rw [if_pos h]
      by_cases h2 : x.1 = j
      · rw [if_pos h2, if_pos h2, Option.map_some, if_pos (h2.symm.trans h)]
      · rw [if_neg h2, if_neg h2]
    · rw [if_neg h]
      by_cases h2 : x.1 = j
      · rw [if_pos h2, if_pos h2, Option.map_some, if_neg (fun z => h (h2.trans z))]
      · rw [if_neg h2, if_neg h2]
theorem look_snoc (k j : List Nat) (e : α) : ∀ es : List (List Nat × α), look es k = none → look (es ++ [(k, e)]) j = if j = k then some e else look es j
  | [], _ => by
    show look [(k, e)] j = _
    rw [look_cons]
    by_cases h : k = j
    · rw [if_pos h, if_pos h.symm]
    · rw [if_neg h, if_neg (fun z => h z.symm)]
  | x :: r, hn => by
    rw [look_cons] at hn
    by_cases h : x.1 = k
    · rw [if_pos h] at hn
      cases hn
    · rw [if_neg h] at hn
      rw [List.cons_append, look_cons, look_cons, look_snoc k j e r hn]
      by_cases h2 : x.1 = j
      · rw [if_pos h2, if_pos h2, if_neg (fun z => h (h2.trans z))]
      · rw [if_neg h2, if_neg h2]
theorem look_put (es : List (List Nat × α)) (k j : List Nat) (e : α) : look (put es k e) j = if j = k then some e else look es j := by
  unfold put
  rw [look_any]
  cases h : look es k with
  | none => exact look_snoc k j e es h
  | some y =>
    show look (es.map _) j = _
    rw [look_map]
    by_cases hj : j = k
    · subst hj
      rw [h, if_pos rfl, Option.map_some, if_pos rfl]
    · rw [if_neg hj]
      cases look es j with
      | none => rfl
      | some z => rw [Option.map_some, if_neg hj]
theorem put_len (es : List (List Nat × α)) (k : List Nat) (e : α) : (put es k e).length ≤ es.length + 1 := by
  unfold put
  split
  · rw [List.length_map]
    omega
  · rw [List.length_append]
    exact Nat.le_refl _
theorem look_mem {es : List (List Nat × α)} {k : List Nat} {e : α} (h : look es k = some e) : (k, e) ∈ es := by
  unfold look at h
  cases hf : es.find? fun x => decide (x.1 = k) with
  | none => rw [hf] at h; cases h
  | some x =>
    rw [hf] at h
    have h1 : x.1 = k := of_decide_eq_true (List.find?_some (p := fun x : List Nat × α => decide (x.1 = k)) hf)
    have h2 : x.2 = e := Option.some.inj h
    rw [← h1, ← h2]
    exact List.mem_of_find?_eq_some hf
theorem mem_look {es : List (List Nat × α)} {x : List Nat × α} (h : x ∈ es) : (look es x.1).isSome = true := by
  rw [← look_any, List.any_eq_true]
  exact ⟨x, h, decide_eq_true rfl⟩
theorem look_put_mem {es : List (List Nat × α)} {k : List Nat} {e : α} {x : List Nat × α} (h : x ∈ put es k e) : x ∈ es ∨ x.2 = e := by
  unfold put at h
  split at h
  · obtain ⟨y, hy, e2⟩ := List.mem_map.mp h
    by_cases h3 : y.1 = k
    · rw [if_pos h3] at e2
      exact .inr (by rw [← e2])
    · rw [if_neg h3] at e2
      exact .inl (by rw [← e2]; exact hy)
  · rcases List.mem_append.mp h with z | z
    · exact .inl z
    · exact .inr (by rw [List.mem_singleton.mp z])
end
/-- how pairs lie as a dict's: R tells which value stands for which thing -/
def Lies {α : Type} (R : α → V → Prop) (es : List (List Nat × α)) (kvs : List (Key × V)) : Prop := Paired (fun x (kv : Key × V) => kv.1 = Sum.inr (S x.1) ∧ R x.2 kv.2) es kvs
section
variable {α : Type} {R R' : α → V → Prop}
theorem key_eq {a b : List Nat} : ((Sum.inr (S a) : Key) = Sum.inr (S b)) ↔ a = b := ⟨fun h => S_inj (Sum.inr.inj h), fun h => by rw [h]⟩
theorem Lies.len {es : List (List Nat × α)} {kvs : List (Key × V)} (h : Lies R es kvs) : es.length = kvs.length := Paired.length h
theorem Lies.mono {es : List (List Nat × α)} {kvs : List (Key × V)} (h : Lies R es kvs) (f : ∀ a v, R a v → R' a v) : Lies R' es kvs := Paired.mapP h fun _ _ z => ⟨z.1, f _ _ z.2⟩
theorem Lies.look : ∀ {es : List (List Nat × α)} {kvs : List (Key × V)}, Lies R es kvs → ∀ k, (Kn.look es k = none ∧ valV kvs (Sum.inr (S k)) = none) ∨ ∃ e v, Kn.look es k = some e ∧ valV kvs (Sum.inr (S k)) = some v ∧ R e v
  | [], _, .nil, _ => .inl ⟨rfl, rfl⟩
  | x :: r, kv :: kvs, .cons h t, k => by
    rw [look_cons]
    by_cases hk : x.1 = k
    · rw [if_pos hk]
      refine .inr ⟨x.2, kv.2, rfl, valV_pos (h.1.trans (key_eq.mpr hk)), h.2⟩
    · rw [if_neg hk, valV_neg (fun z => hk (key_eq.mp (h.1.symm.trans z)))]
      exact Lies.look t k
theorem Lies.any {es : List (List Nat × α)} {kvs : List (Key × V)} (h : Lies R es kvs) (k : List Nat) : (kvs.any fun kv => decide (kv.1 = Sum.inr (S k))) = es.any fun x => decide (x.1 = k) := by
  rw [valV_any, look_any]
  rcases h.look k with ⟨a, b⟩ | ⟨e, v, a, b, _⟩
  · rw [a, b]
    rfl
  · rw [a, b]
    rfl
theorem Lies.mapped {k : List Nat} {e : α} {v : V} (hv : R e v) : ∀ {es : List (List Nat × α)} {kvs : List (Key × V)}, Lies R es kvs → Lies R (es.map fun x => if x.1 = k then (x.1, e) else x) (kvs.map fun kv => if kv.1 = (Sum.inr (S k) : Key) then (kv.1, v) else kv)
  | [], _, .nil => .nil
  | x :: r, kv :: kvs, .cons h t => by
    refine .cons ?_ (Lies.mapped hv t)
    by_cases hk : x.1 = k
    · dsimp only
      rw [if_pos hk, if_pos (h.1.trans (key_eq.mpr hk))]
      exact ⟨h.1, hv⟩
    · dsimp only
      rw [if_neg hk, if_neg (fun z => hk (key_eq.mp (h.1.symm.trans z)))]
      exact h
theorem Lies.snoc {k : List Nat} {e : α} {v : V} (hv : R e v) : ∀ {es : List (List Nat × α)} {kvs : List (Key × V)}, Lies R es kvs → Lies R (es ++ [(k, e)]) (kvs ++ [(Sum.inr (S k), v)])
  | [], _, .nil => .cons ⟨rfl, hv⟩ .nil
  | _ :: _, _ :: _, .cons h t => .cons h (Lies.snoc hv t)
theorem Lies.put {es : List (List Nat × α)} {kvs : List (Key × V)} {k : List Nat} {e : α} {v : V} (h : Lies R es kvs) (hv : R e v) : Lies R (Kn.put es k e) (putK kvs (Sum.inr (S k)) v) := by
  unfold Kn.put putK
  rw [h.any k]
  split
  · exact h.mapped hv
  · exact h.snoc hv
theorem Lies.keys : ∀ {es : List (List Nat × α)} {kvs : List (Key × V)}, Lies R es kvs → kvs.map (·.1) = (es.map fun x => S x.1).map Sum.inr
  | [], _, .nil => rfl
  | _ :: _, _ :: _, .cons h t => by
    rw [List.map_cons, List.map_cons, List.map_cons, h.1, Lies.keys t]
theorem Lies.get : ∀ {es : List (List Nat × α)} {kvs : List (Key × V)}, Lies R es kvs → ∀ (i : Nat) kv, kvs[i]? = some kv → ∃ x, es[i]? = some x ∧ kv.1 = Sum.inr (S x.1) ∧ R x.2 kv.2
  | [], _, .nil, _, _, h => by simp at h
  | x :: _, kv :: _, .cons h t, 0, kv', e => by
    cases Option.some.inj e
    exact ⟨x, rfl, h.1, h.2⟩
  | _ :: _, _ :: _, .cons h t, i + 1, kv', e => by
    obtain ⟨y, h1, h2⟩ := Lies.get t i kv' (by simpa using e)
    exact ⟨y, by simpa using h1, h2⟩
end
section
variable {K : PySem.W.Frag} {σ : L2.St} {H H' : Hp} {ta tb td ty te tc tv : TE} {t u : TT} {x y z v : V} {D : Ends} {tu tw tz : TS} {C p d dx : Addr} {fs : List (Str × V)} {kvs : List (Key × V)} {k : List Nat}
/-- y = [x for x in d.values() if t] -/
theorem s_lcVals {i j : Nat} {vs : List Nat} (f : Nat → Bool) (h1 : ∀ H1 : Hp, (∀ a o, a ≠ d → H a = some o → H1 a = some o) → Ev td σ H1 (.ref d)) (hd : H d = some (.dK kvs)) (hz : kvs.length ≤ 40000) (hw : ∀ x, wipe ((wipe σ vs).set j (some x)) vs = wipe σ vs)
    (ht : ∀ (i : Nat) (kv : Key × V) (H1 : Hp), (∀ a o, a ≠ d → H a = some o → H1 a = some o) → kvs[i]? = some kv → EvT t ((wipe σ vs).set j (some kv.2)) H1 (f i)) (he : ∀ (x : V) H1, Ev te ((wipe σ vs).set j (some x)) H1 x)
    (k : ∀ p H1, H p = none → Ex H H1 → H1 p = some (.lst (given kvs.length f fun i => (kvs[i]?.map (·.2)).getD .non)) → D.nx (σ.set i (some (.ref p))) H1) : tLock (tAsg (tLc (iVals td) (gName j) t te vs) (gName i)) D σ H := by
  refine ⟨d, .dK kvs, hd, trivial, fun od => ?_⟩
  have base : ∀ H1, Ex (upd H d (.frz od (.dK kvs))) H1 → ∀ a o, a ≠ d → H a = some o → H1 a = some o := fun H1 e a o ha h => e a o (by rw [upd_ne ha]; exact h)
  refine h1 _ (base _ (Ex.refl _)) _ (Ex.refl _) _ fun H1 e1 => ⟨d, od, kvs, rfl, e1 _ _ upd_same, fun Dl hD => ?_⟩
  refine lc_it walk_values (Cw H1 f (fun i => (kvs[i]?.map (·.2)).getD .non) Dl) ⟨hD, Ex.new hD, upd_same⟩ (fun i H2 _ q => q.2.1 _ _ (e1 _ _ upd_same)) (fun i x H2 H3 hi q y => ?_) (fun H2 q => ?_)
  · obtain ⟨rfl, ky, hy⟩ := y
    refine ⟨hw x, cw_turn q (by omega) (ht i (ky, x) H1 (base H1 e1) hy) (fun _ => ?_)⟩
    rw [hy]
    exact he x H1
  · have dn : H1 d = some (.frz od (.dK kvs)) := e1 _ _ upd_same
    have hd2 : H2 d = some (.frz od (.dK kvs)) := q.2.1 _ _ dn
    refine ⟨hd2, k Dl _ ?_ (fun a o h => ?_) ?_⟩
    · cases h : H Dl with
      | none => rfl
      | some o =>
        have ne : Dl ≠ d := fun z => by rw [z] at hD; rw [hD] at dn; cases dn
        have := e1 _ _ (by rw [upd_ne ne]; exact h)
        rw [hD] at this
        cases this
    · by_cases ha : a = d
      · rw [ha] at h ⊢
        rw [upd_same, ← hd, h]
      · rw [upd_ne ha]
        exact q.2.1 _ _ (base H1 e1 a o ha h)
    · have ne : Dl ≠ d := fun z => by rw [z] at hD; rw [hD] at dn; cases dn
      rw [upd_ne ne]
      exact q.2.2
/-- [(a, ..) for x in d if t]: new tuples -/
theorem ev_lcKeysT {j : Nat} {vs : List Nat} (f : Nat → Bool) (xs : Nat → List V) (h1 : ∀ H1, Ev td σ H1 (.ref d)) (hd : H d = some (.dK kvs)) (hz : kvs.length ≤ 40000) (hw : ∀ x, wipe ((wipe σ vs).set j (some x)) vs = wipe σ vs)
    (ht : ∀ (i : Nat) (kv : Key × V) (H1 : Hp) , kvs[i]? = some kv → EvT t ((wipe σ vs).set j (some (kV kv.1))) H1 (f i))
    (he : ∀ (i : Nat) (kv : Key × V) (H1 : Hp) (od : Obj), H1 d = some (.frz od (.dK kvs)) → kvs[i]? = some kv → f i = true → EvU te ((wipe σ vs).set j (some (kV kv.1))) H1 (xs i)) :
    ∀ H0, Ex H H0 → ∀ Q : VK, (∀ p H2 (ps : List Addr), H0 p = none → Ex H0 H2 → H2 p = some (.lst (ps.map V.ref)) → Paired (fun q v => H2 q = some (.tup v)) ps (((List.range kvs.length).filter f).map xs) → Q (.ref p) H2) → tLockE (tLc (iKeys td) (gName j) t te vs) σ H0 Q := by
  intro H0 e0 Q k
  have hd0 := e0 _ _ hd
  refine ⟨d, .dK kvs, hd0, trivial, fun od => ?_⟩
  refine h1 _ _ (Ex.refl _) _ fun H1 e1 => ⟨d, od, rfl, .inl ⟨kvs, e1 _ _ upd_same, fun Dl hD => ?_⟩⟩
  have dn : H1 d = some (.frz od (.dK kvs)) := e1 _ _ upd_same
  have ne : Dl ≠ d := fun z => by rw [z] at hD; rw [hD] at dn; cases dn
  refine lc_it walk_keys (fun i H' => Ex H1 H' ∧ ∃ ps : List Addr, H' Dl = some (.lst (ps.map V.ref)) ∧ ps.length ≤ i ∧ Paired (fun q v => H' q = some (.tup v)) ps (((List.range i).filter f).map xs)) ⟨Ex.new hD, [], upd_same, Nat.le_refl _, .nil⟩ (fun i H2 _ q => q.1 _ _ dn) (fun i x H2 H3 hi q y => ?_) (fun H2 q => ?_)
  · obtain ⟨rfl, ky, vv, hy, rfl⟩ := y
    obtain ⟨e2, ps, hl, hlen, hp⟩ := q
    refine ⟨hw _, ht i (ky, vv) _ hy _ (Ex.refl _) _ fun H3 e3 => ?_⟩
    cases hf : f i with
    | false =>
      show Ex H1 H3 ∧ _
      refine ⟨e2.trans e3, ps, e3 _ _ hl, by omega, ?_⟩
      rw [List.range_succ, List.filter_append, List.filter_cons, hf]
      show Paired _ ps (List.map xs (_ ++ []))
      rw [List.append_nil]
      exact Paired.mapP hp fun _ _ z => e3 _ _ z
    | true =>
      show te _ H3 fun y H4 => ∃ acc, _
      refine he i (ky, vv) H3 od (e3 _ _ (e2 _ _ dn)) hy hf H3 (Ex.refl _) _ fun r H4 nr e4 hr => ?_
      have hl4 : H4 Dl = some (.lst (ps.map V.ref)) := e4 _ _ (e3 _ _ hl)
      refine ⟨ps.map V.ref, hl4, sz_lt (by rw [List.length_map]; omega), Ex.mut ((e2.trans e3).trans e4) hD, ps ++ [r], ?_, ?_, ?_⟩
      · rw [List.map_append]
        exact upd_same
      · rw [List.length_append]
        show ps.length + 1 ≤ i + 1
        omega
      · have up : ∀ q w, H4 q = some (.tup w) → (upd H4 Dl (.lst (ps.map V.ref ++ [.ref r]))) q = some (.tup w) := fun q w hq => by
          rw [upd_ne (ne_of hq hl4 (by intro z; cases z))]
          exact hq
        rw [List.range_succ, List.filter_append, List.filter_cons, hf, List.map_append]
        have app : ∀ {F : Addr → List V → Prop} {as : List Addr} {bs : List (List V)} {a : Addr} {b : List V}, Paired F as bs → F a b → Paired F (as ++ [a]) (bs ++ [b]) := by
          intro F as bs a b hh hab
          induction hh with
          | nil => exact .cons hab .nil
          | cons h1 _ ih => exact .cons h1 ih
        exact app (Paired.mapP hp fun _ _ z => up _ _ (e4 _ _ (e3 _ _ z))) (up _ _ hr)
  · obtain ⟨e2, ps, hl, _, hp⟩ := q
    refine ⟨e2 _ _ dn, k Dl _ ps ?_ (fun a o h => ?_) ?_ (Paired.mapP hp fun q w z => ?_)⟩
    · cases h : H0 Dl with
      | none => rfl
      | some o =>
        have := e1 _ _ (by rw [upd_ne ne]; exact h)
        rw [hD] at this
        cases this
    · by_cases ha : a = d
      · rw [ha] at h ⊢
        rw [upd_same, ← hd0, h]
      · rw [upd_ne ha]
        exact e2 _ _ (e1 _ _ (by rw [upd_ne ha]; exact h))
    · rw [upd_ne ne]
      exact hl
    · have hdz : H2 d = some (.frz od (.dK kvs)) := e2 _ _ dn
      rw [upd_ne (ne_of z hdz (by intro w; cases w))]
      exact z
end
end Kn
namespace Kn
open PySem PySem.Spec PyProof.Rows L2 Evl SX
section
variable {K : PySem.W.Frag} {σ : L2.St} {H H' : Hp} {ta tb td ty te tc tv : TE} {t u : TT} {x y z v : V} {D : Ends} {tu tw tz : TS} {C p d dx : Addr} {fs : List (Str × V)} {kvs : List (Key × V)} {k : List Nat}
theorem q_dnew {i : Nat} (k : ∀ p, H p = none → tz D (σ.set i (some (.ref p))) (upd H p (.dK []))) : tSeq (tAsg tDNewK (gName i)) tz D σ H := k
theorem s_meth {m : Str} {sp : Sp} {E : XK} {tA : TA} {vs : List V} (ha : Ev ta σ H (.ref p)) (ho : H p = some (.ins C dx fs)) (hm : fs.lookup m = none) (h : EvA tA σ H vs) (k : ∀ H1, Ex H H1 → sp (.ref p :: vs) H1 (fun _ H2 => D.nx σ H2) E) : tDrop (tMeth C m sp [] E ta tA) D σ H :=
  ha H (Ex.refl H) _ fun H1 e1 => ⟨p, dx, fs, rfl, e1 _ _ ho, hm, h H1 e1 _ fun H2 e2 => by
    rw [List.append_nil]
    exact k H2 (e1.trans e2)⟩
theorem q_meth {m : Str} {sp : Sp} {E : XK} {tA : TA} {vs : List V} (ha : Ev ta σ H (.ref p)) (ho : H p = some (.ins C dx fs)) (hm : fs.lookup m = none) (h : EvA tA σ H vs) (k : ∀ H1, Ex H H1 → sp (.ref p :: vs) H1 (fun _ H2 => tz D σ H2) E) : tSeq (tDrop (tMeth C m sp [] E ta tA)) tz D σ H :=
  s_meth (D := { D with nx := tz D }) ha ho hm h k
/-- for k in sorted(d) -/
theorem q_forSD {ks : List (List Nat)} {j : Nat} (hv : Ev td σ H (.ref d)) (hd : H d = some (.dK kvs)) (hk : kvs.map (·.1) = (ks.map S).map Sum.inr) (hn : ks.length < 64) (Pv : List (List Nat) → Addr → Nat → L2.St → Hp → Prop)
    (h0 : ∀ ys p H1, ys.Perm ks → H p = none → Ex H H1 → H1 p = some (.lst (ys.map fun l => V.str (S l))) → Pv ys p 0 σ H1)
    (hl : ∀ ys p i σ' H', Pv ys p i σ' H' → SqL K H' p (ys.map fun l => V.str (S l)))
    (hs : ∀ ys p i l σ' H', ys.Perm ks → ys[i]? = some l → Pv ys p i σ' H' → tu { D with nx := Pv ys p (i + 1), ct := Pv ys p (i + 1), bk := tz D } (σ'.set j (some (.str (S l)))) H')
    (hend : ∀ ys p σ' H', ys.Perm ks → Pv ys p ys.length σ' H' → tz D σ' H') : tSeq (tFor (iList K (tCB (rSortD K) (tCons td tNil))) (gName j) tu) tz D σ H := by
  refine hv H (Ex.refl H) _ fun H1 e1 => ⟨d, kvs, ks.map S, rfl, .inl (e1 _ _ hd), hk, by rw [List.length_map]; exact hn, fun ys p hp _ hnew => ?_⟩
  have e : ys = (ys.map TL.tl).map S := by
    rw [List.map_map]
    exact (List.map_id' ys).symm.trans (List.map_congr_left fun x _ => (S_tl x).symm)
  have hperm : (ys.map TL.tl).Perm ks := by
    have h := hp.map TL.tl
    rw [map_S_tl] at h
    exact h
  have e2 : ys.map V.str = (ys.map TL.tl).map fun l => V.str (S l) := by
    rw [List.map_map]
    exact List.map_congr_left fun x _ => congrArg V.str (S_tl x).symm
  refine ⟨p, rfl, ⟨_, sq_of upd_same⟩, ?_⟩
  rw [e2]
  refine for_list (xs := (ys.map TL.tl).map fun l => V.str (S l)) (Pv (ys.map TL.tl) p) (h0 _ p _ hperm (fresh_back e1 hnew) (e1.trans (Ex.new hnew)) upd_same) (fun i σ' H' _ q => hl _ p i σ' H' q) (fun i x σ' H' hx q => ?_) (fun σ' H' q => ?_)
  · rw [List.getElem?_map] at hx
    cases h : (ys.map TL.tl)[i]? with
    | none => rw [h] at hx; cases hx
    | some l =>
      rw [h] at hx
      cases Option.some.inj hx
      exact hs _ p i l σ' H' hperm h q
  · rw [List.length_map] at q
    exact hend _ p σ' H' hperm q
end
/-! ### a dict made of pairs -/
def puts {α : Type} (acc L : List (List Nat × α)) : List (List Nat × α) := L.foldl (fun a x => put a x.1 x.2) acc
theorem look_puts {α : Type} {g : List Nat → Option α} : ∀ (L acc : List (List Nat × α)), (∀ x ∈ L, g x.1 = some x.2) → ∀ k, look (puts acc L) k = if k ∈ L.map (·.1) then g k else look acc k
  | [], acc, _, k => (if_neg (by simp)).symm
  | x :: r, acc, h, k => by
    show look (puts (put acc x.1 x.2) r) k = _
    rw [look_puts r _ (fun y hy => h y (List.mem_cons_of_mem _ hy)) k, look_put]
    by_cases h1 : k ∈ r.map (·.1)
    · rw [if_pos h1, if_pos (by rw [List.map_cons]; exact List.mem_cons_of_mem _ h1)]
    · rw [if_neg h1]
      by_cases h2 : k = x.1
      · rw [if_pos h2, if_pos (by rw [List.map_cons, h2]; exact List.mem_cons_self), h2, h x List.mem_cons_self]
      · rw [if_neg h2, if_neg (by rw [List.map_cons, List.mem_cons]; exact fun z => z.elim h2 h1)]
theorem puts_len {α : Type} : ∀ (L acc : List (List Nat × α)), (puts acc L).length ≤ acc.length + L.length
  | [], acc => Nat.le_refl _
  | x :: r, acc => by
    have h1 := puts_len r (put acc x.1 x.2)
    have h2 := put_len acc x.1 x.2
    show (puts (put acc x.1 x.2) r).length ≤ _
    rw [List.length_cons]
    omega
theorem Lies.puts {α : Type} {R : α → V → Prop} : ∀ {L : List (List Nat × α)} {kvs : List (Key × V)} {acc : List (List Nat × α)} {akvs : List (Key × V)}, Lies R L kvs → Lies R acc akvs → Lies R (Kn.puts acc L) (mergeK akvs kvs)
  | [], _, _, _, .nil, h => h
  | x :: r, kv :: kvs, acc, akvs, .cons h t, ha => by
    have h2 := ha.put (k := x.1) h.2
    rw [← h.1] at h2
    show Lies R (Kn.puts (Kn.put acc x.1 x.2) r) (mergeK (putK akvs kv.1 kv.2) kvs)
    exact Lies.puts (L := r) (kvs := kvs) t h2
theorem put_mem {α : Type} {es : List (List Nat × α)} {k : List Nat} {e : α} {x : List Nat × α} (h : x ∈ put es k e) : x ∈ es ∨ x = (k, e) := by
  unfold put at h
  split at h
  · obtain ⟨y, hy, e2⟩ := List.mem_map.mp h
    by_cases h3 : y.1 = k
    · rw [if_pos h3] at e2
      exact .inr (by rw [← e2, h3])
    · rw [if_neg h3] at e2
      exact .inl (by rw [← e2]; exact hy)
  · rcases List.mem_append.mp h with z | z
    · exact .inl z
    · exact .inr (List.mem_singleton.mp z)
theorem upd_none {H : Hp} {a b : Addr} {o : HO} (h : upd H a o b = none) : H b = none := by
  by_cases e : b = a
  · subst e
    rw [upd_same] at h
    cases h
  · rw [upd_ne e] at h
    exact h
theorem Paired.maps {α β γ : Type} {F : α → β → Prop} {f : γ → α} {g : γ → β} : ∀ (L : List γ), (∀ i ∈ L, F (f i) (g i)) → Paired F (L.map f) (L.map g)
  | [], _ => .nil
  | x :: r, h => .cons (h x List.mem_cons_self) (Paired.maps r fun i hi => h i (List.mem_cons_of_mem _ hi))
theorem ev_dgetF {σ : L2.St} {H : Hp} {td ty : TE} {d : Addr} {k : List Nat} {kvs : List (Key × V)} {v : V} {od : Obj} (h1 : Ev td σ H (.ref d)) (h2 : Ev ty σ H (.str (S k))) (hd : H d = some (.frz od (.dK kvs))) (hv : valV kvs (Sum.inr (S k)) = some v) : Ev (tDGet td ty) σ H v := fun H1 e Q q =>
  h1 H1 e _ fun H2 e2 => h2 H2 (e.trans e2) _ fun H3 e3 => ⟨d, v, rfl, .inl ⟨kvs, Sum.inr (S k), .inr ⟨od, ((e.trans e2).trans e3) _ _ hd⟩, rfl, hv.symm⟩, q H3 (e2.trans e3)⟩
end Kn

/-! ### own exceptions over an own base -/
namespace Kn
open PySem PySem.Spec PyProof.Rows L2 Evl SX
/-- what the base's __init__ asks of the own base class at B -/
structure BaseC (K : PySem.W.Frag) (B : Addr) : Prop where
  sp : PySem.W.specialIn K (.ref B) "__getattribute__" = some (some (.builtin "type.__getattribute__"))
  rd : PySem.W.readsIn K B (.type "type") = true
  fi : PySem.W.findCls K (.ref B) (.type "type") "__init__" = some (.val (.builtin "ValueError.__init__"))
theorem pe_beinit {X : Cx} {b : Str} {B : Addr} {e : Expr} {es : List Expr} {ta : TA} {p1 p2 pos : Pos} {pl : Sem Bool} (T : BaseC X.K B) (hg : Gl X b) (hm : X.mg b = some (.ref B)) (ha : PA X (e :: es) ta)
    (hdb : (b == ("__debug__" : Str)) = false := by decide)
    (hc : eval (.Call (.Attribute (.Name b p1) "__init__" p2) (e :: es) [] pos) X.env = (do
      let ov ← eval (.Name b p1) X.env
      standAt p2.atName
      let (f, first) ← holding [ov] (getMethod ov "__init__" pl)
      callWith pos f first (backTo pos (starEach (e :: es) X.env)) (backToKw pos (keywordEach [] X.env))) := by rfl)
    (he : starEach (e :: es) X.env = (false, eval e X.env) :: starEach es X.env := by rfl) (hpl : (backTo pos (starEach es X.env)).any (·.1) = false := by rfl) :
    PE X (.Call (.Attribute (.Name b p1) "__init__" p2) (e :: es) [] pos) (tVeI X.K ta) := by
  refine ⟨fun pins s σ H Q I h => ?_⟩
  refine PySem.W.methodCall_KW (ld_glob I hg hm ?_ hdb) hc
  refine PySem.W.method_cls I.kIn T.sp (PySem.W.cls_value I.kIn T.rd T.fi (by decide +kernel) ?_)
  show wpAny _ _ (callWith pos (Value.builtin "ValueError.__init__") [] (backTo pos (starEach (e :: es) X.env)) []) _ _ _
  refine PyProof.Rows.callWith_method1 (thn (ha.run pos pins _ σ H _ (I.tok _) h) fun us s1 ⟨vs, H1, I1, r1, a, C, ws, ev, hl, T, ea, q⟩ => ?_) he hpl
  subst ev
  cases r1 with
  | @cons _ u0 _ ur ra rw' =>
    obtain rfl : u0 = Value.ref a := ra
    have hlen : ur.length ≤ sizeLine := by
      rw [← Paired.length rw', sizeLine_eq]
      omega
    exact oinit_ok T I1 ea hlen fun s' J => ⟨.non, H1, J, rfl, q⟩
/-- isinstance(e, c), e the exception at a that the suite holds, with a dict -/
def rIsX (K : PySem.W.Frag) (a : Addr) (cls : Value) (d : Option Addr) : List V → Hp → VK → Prop := fun xs H Q => ∃ (D dd : Addr) (fs : List (Str × V)) (c : V) (cv : Value) (b : Bool),
  cls = .ref D ∧ d = some dd ∧ ExcC K D ∧ H dd = some (.xd fs) ∧ xs = [.ref a, c] ∧ (∀ u, RelV c u → u = cv) ∧ PySem.W.kitOne K (.ref D) cv = some b ∧ Q (.bl b) H
theorem cr_isX {X : Cx} {a : Addr} {oe : Obj} {cls : Value} {d : Option Addr} {pn : List (Addr × Obj)} (hz : Zc cls d oe) (hf : ∃ vs, oe.data = .fields vs) : CallR (X.suite a ((a, oe) :: pn)) (.builtin "isinstance") (rIsX X.K a cls d) := by
  intro pins s σ H xs us Q I r h
  obtain ⟨D, dd, fs, c, cv, b, rfl, rfl, C, hd, rfl, hcv, e, q⟩ := h
  obtain ⟨u0, u1, rfl, r0, r1⟩ := vals2 r
  obtain rfl : u0 = Value.ref a := r0
  obtain rfl := hcv _ r1
  obtain ⟨hget, _⟩ := I.pin (a, oe) (List.mem_append_left _ List.mem_cons_self)
  obtain ⟨vs, hv⟩ := hf
  obtain ⟨mA, hns, _⟩ := (I.hok dd _ hd : ObjOk X.prog X.w H s.heap dd (.xd fs))
  obtain ⟨od, ho, _⟩ := lookIn_ns hns
  have J : PySem.W.InstAt s.heap a oe D (some od) := ⟨hget, hz.1, by unfold PySem.W.notCls; rw [hv] <;> rfl, by rw [hz.2]; exact ho⟩
  obtain ⟨cd, hc, _⟩ := PySem.W.any_some C.hd
  exact PySem.W.kia_one (PySem.W.kitx_exc (by rw [hc]; rfl) C.hg C.hk C.hs C.ha C.hn C.ht C.hm) I.kIn J e (fun z => nomatch z) fun tk => ⟨.bl b, H, I.kept (t' := tk) fun _ _ z => z, rfl, q⟩
end Kn
/-! ### int(t, 2) -/
namespace Kn.Bi
open PySem PySem.Spec PyProof.Rows L2 PySem.NumText PySem.Calls
def IsBin (c : Nat) : Prop := c = 48 ∨ c = 49
theorem IsBin.hex {c : Nat} (h : IsBin c) : Hx.IsHex c := .inl (by unfold IsBin at h; omega)
theorem IsBin.lt {c : Nat} (h : IsBin c) : Hx.hv c < 2 := by
  rcases h with rfl | rfl <;> decide
def binNum (l : List Nat) : Nat := l.foldl (fun a c => a * 2 + Hx.hv c) 0
theorem step_bin {ds : Array Nat} {b : Bool} {c : Nat} (h : IsBin c) : PySem.NumText.step 2 (ds, b) c = some (ds.push (Hx.hv c), true) := by
  unfold PySem.NumText.step
  rw [if_neg (by rw [beq_iff_eq]; exact (Hx.hex_rng h.hex).2.2), Hx.digit_hex h.hex]
  exact if_pos h.lt
theorem fold_bin : ∀ (cs : List Nat) (ds : Array Nat), (∀ c ∈ cs, IsBin c) → cs.foldlM (PySem.NumText.step 2) (ds, true) = some (cs.foldl (fun acc c => acc.push (Hx.hv c)) ds, true)
  | [], _, _ => rfl
  | c :: cs, ds, h => by
    rw [List.foldlM_cons, step_bin (h c List.mem_cons_self)]
    exact fold_bin cs _ fun d hd => h d (List.mem_cons_of_mem _ hd)
theorem digits_bin {cs : List Nat} (h : ∀ c ∈ cs, IsBin c) (hne : cs ≠ []) : digits? 2 cs = some (cs.foldl (fun acc c => acc.push (Hx.hv c)) #[]) := by
  cases cs with
  | nil => exact absurd rfl hne
  | cons c cs =>
    unfold digits?
    rw [List.foldlM_cons, step_bin (h c List.mem_cons_self)]
    show (cs.foldlM (PySem.NumText.step 2) ((#[] : Array Nat).push (Hx.hv c), true)).bind _ = _
    rw [fold_bin cs _ fun d hd => h d (List.mem_cons_of_mem _ hd)]
    rfl
theorem push_bin : ∀ (cs : List Nat) (ds : Array Nat), (cs.foldl (fun acc c => acc.push (Hx.hv c)) ds).foldl (fun acc d => acc * 2 + d) 0 = cs.foldl (fun a c => a * 2 + Hx.hv c) (ds.foldl (fun acc d => acc * 2 + d) 0)
  | [], _ => rfl
  | c :: cs, ds => by
    rw [List.foldl_cons, push_bin cs, List.foldl_cons]
    congr 1
    simp
theorem based_bin : ∀ {cs : List Nat}, (∀ c ∈ cs, IsBin c) → based 2 cs = (2, false, cs)
  | [], _ => rfl
  | [a], h => by rcases h a List.mem_cons_self with rfl | rfl <;> rfl
  | a :: c :: r, h => by
    rcases h a List.mem_cons_self with rfl | rfl <;> rcases h c (List.mem_cons_of_mem _ List.mem_cons_self) with rfl | rfl <;> rfl
theorem read_bin {cs : List Nat} (h : ∀ c ∈ cs, IsBin c) (hne : cs ≠ []) : (int_private% "readNumeral") 0 2 cs = (int_private% "Numeral.value") ((binNum cs : Nat) : Int) := by
  have hx : ∀ c ∈ cs, Hx.IsHex c := fun c hc => (h c hc).hex
  have hr : ∀ c ∈ cs.reverse, Hx.IsHex c := fun c hc => hx c (List.mem_reverse.mp hc)
  refine (readNumeral_eq 0 2 cs).trans ?_
  rw [Hx.dropB hx, Hx.signH hx]
  show judge 0 false (based 2 cs).1 (based 2 cs).2.1 (digits? (based 2 cs).1 (((based 2 cs).2.2.reverse.dropWhile blank).reverse)) = _
  rw [based_bin h]
  show judge 0 false 2 false (digits? 2 ((cs.reverse.dropWhile blank).reverse)) = _
  rw [Hx.dropB hr, List.reverse_reverse, digits_bin h hne]
  show (int_private% "Numeral.value") (((cs.foldl (fun acc c => acc.push (Hx.hv c)) (#[] : Array Nat)).foldl (fun acc d => acc * 2 + d) 0 : Nat) : Int) = _
  have z : (#[] : Array Nat).foldl (fun acc d => acc * 2 + d) 0 = 0 := by first | rfl | simp
  rw [push_bin, z] <;> rfl
theorem gives_bin {x : PySem.Str} {u t : Tok} (hl : x.length ≤ 640) (h : ∀ c ∈ x.cps.toList, IsBin c) (hne : x.cps.toList ≠ []) :
    Gives (Builtin.«int.__new__» ⟨[.type "int", .str x u, .int 2 t], []⟩) (.int ((binNum x.cps.toList : Nat) : Int)) :=
  .of_wp fun M A E s Q hQ => by
    obtain ⟨hp, g, d, tk, os⟩ := s
    have f1 := F.conv_sub_int
    have f2 := F.madeHere_int
    have f6 : typeOf (.str x u) = pure (.type "str") := rfl
    obtain ⟨e1, e2⟩ := Hx.seen_hex fun c hc => (h c hc).hex
    have hs : (numSeenOf x).length ≤ 640 := by
      rw [e2, Array.length_toList]
      exact hl
    have hr : (int_private% "readNumeral") 0 2 (numSeenOf x) = (int_private% "Numeral.value") ((binNum x.cps.toList : Nat) : Int) := by
      rw [e2]
      exact read_bin h hne
    have ha : ((numSeenOf x).length == (numTextOf x).length) = true := by
      rw [e1, e2]
      exact beq_self_eq_true _
    have hk := Hx.Hid.mk (And.intro hs (And.intro hr ha))
    clear hs hr ha e1 e2 hl hne h
    repeat (any_goals (first
      | assumption
      | ((with_reducible show wpAny _ _ ((int_private% "intFromText") _ _ _) _ _ _); refine Hx.wp_textB hk.out.1 hk.out.2.1 hk.out.2.2 ?_)
      | wp_step))
    all_goals first | exact ⟨_, rfl, hQ⟩ | skip
/-- int(t, 2) -/
def rIntBin : List V → Hp → VK → Prop := fun xs H Q => ∃ l : List Nat, xs = [.str (SX.S l), .int 2] ∧ l ≠ [] ∧ l.length ≤ 640 ∧ (∀ c ∈ l, IsBin c) ∧ Q (.int ((binNum l : Nat) : Int)) H
theorem cr_intBin {X : Cx} : CallR X (.type "int") rIntBin := by
  intro pins s σ H xs us Q I r h
  obtain ⟨l, rfl, hne, hl, hx, q⟩ := h
  obtain ⟨u, w', rfl, r1, r2⟩ := vals2 r
  obtain ⟨t1, rfl⟩ := r1
  obtain ⟨t2, rfl⟩ := r2
  exact callType_new F.called_int F.newNe_int (Hx.typeCall_int_2 _ _) (Hx.newCall_int_2 _ _) (fun obj => F.initArgs_range_2 obj _ _) F.entry_int_new (gives_bin (x := SX.S l) (by rw [SX.S_len]; exact hl) hx hne).meets
    (show (Made.int ((binNum l : Nat) : Int)).post _ s from ⟨rfl, ⟨.int ((binNum l : Nat) : Int), H, I.tok _, ⟨_, rfl⟩, q⟩⟩)
end Kn.Bi
/-! ### f'{n:b}' -/
namespace Kn.Bi
open PySem PySem.Spec PyProof.Rows L2 PySem.NumText PySem.Calls PySem.W Builtin.Float
def digB (n : Nat) : List Nat := (Nat.toDigits 2 n).map Char.toNat
def fB : FormatSpec := { align := 62, type := some 98 }
theorem parse_b : parseFormatSpec (Str.ofString "b").cps.toList "int" 62 = .ok fB := by kernel_rfl
theorem digB_ne (n : Nat) : digB n ≠ [] := fun z => by
  have h1 := tDigits_len_ge 2 n
  have h2 : (digB n).length = (Nat.toDigits 2 n).length := List.length_map _
  rw [z, List.length_nil] at h2
  omega
theorem field_eq (ds : List Nat) (h : ds ≠ []) : intField' fB false [] ds [] 4 = SX.S ds := by
  unfold intField' fB
  cases ds with
  | nil => exact absurd rfl h
  | cons c r =>
    simp
    omega
theorem field_b {a : Int} (h0 : 0 ≤ a) : intField' fB (decide (a < 0)) [] (digB a.natAbs) [] 4 = SX.S (digB a.natAbs) := by
  rw [decide_eq_false (by omega)]
  exact field_eq _ (digB_ne _)
theorem meets_b {a : Int} {t u : Tok} (h0 : 0 ≤ a) (hl : (digB a.natAbs).length ≤ 100000) : Meets (Builtin.«int.__format__» ⟨[.int a t, .str "b" u], []⟩) (fun _ R s => ∀ t' k, R (.ok (.ret (.str (SX.S (digB a.natAbs)) t'))) { s with toks := k }) := by
  apply KPc.meets_of
  intro _ _ _ _ _ _ hQ
  unfold Builtin.«int.__format__»
  refine wpAny_bind (wpAny_of_eq (a := (_, _)) rfl ?_)
  refine wpAny_bind (wpAny_of_eq (a := _) rfl ?_)
  kxf_if
  refine wpAny_bind (wpAny_typeNameOf (T := "str") (typeIs_str _ _ _) (by decide) fun _ => ?_)
  refine wpAny_bind (wpAny_of_eq (a := some _) rfl ?_)
  kxf_if
  kxf_if
  refine wpAny_bind (wpAny_typeNameOfCut_int ?_)
  rw [parse_b]
  dsimp only
  rw [if_pos (by decide +kernel)]
  show wpAny _ _ (retStr (intField' fB (decide (a < 0)) [] (digB a.natAbs) [] 4)) _ _ _
  exact KXf.ret_text (field_b h0) (by rw [field_b h0, SX.S_len]; exact Evl.sz_of hl) hQ
/-- {x:b} -/
def tFmtB (te : TE) : TE := fun σ H Q => te σ H fun x H1 => ∃ i : Int, x = .int i ∧ 0 ≤ i ∧ (digB i.natAbs).length ≤ 100000 ∧ Q (.str (SX.S (digB i.natAbs))) H1
theorem pe_fmtB {X : Cx} {e sp : Expr} {te : TE} {pos : Pos} (he : PE X e te) (hs : PE X sp (tC (.str "b"))) : PE X (.FormattedValue e (-1) (some sp) pos) (tFmtB te) := by
  refine ⟨fun pins s σ H Q I h => ?_⟩
  refine wpAny_FormattedValue_spec (thn (he.run pins s σ H _ I h) fun v s1 ⟨x, H1, I1, r1, i, ex, h0, hl, q⟩ => ?_)
  subst ex
  obtain ⟨t, rfl⟩ := r1
  refine thn (hs.run pins s1 σ H1 (fun v H2 => v = .str "b" ∧ H2 = H1) I1 ⟨rfl, rfl⟩) fun r s2 ⟨y, H2, I2, r2, ey, eH⟩ => ?_
  subst ey
  subst eH
  obtain ⟨t2, rfl⟩ := r2
  exact ⟨_, t2, rfl, KXf.field_int rfl (by decide +kernel) (by decide +kernel) (fun u => meets_b h0 hl) fun t' k => ⟨.str (SX.S (digB i.natAbs)), H2, I2.tok _, ⟨_, rfl⟩, q⟩⟩
end Kn.Bi
/-! ### comprehensions over ranges -/
namespace Kn
open PySem PySem.Spec PyProof.Rows L2 Evl SX
section
variable {K : PySem.W.Frag} {σ : L2.St} {H H' : Hp} {ta tb te tc : TE} {t u : TT} {x y z v : V} {D : Ends} {tu tw tz : TS}
theorem el_lcR2 {ta : TA} {j : Nat} {vs : List Nat} {lo hi : Int} (f : Nat → Bool) (v : Nat → V) (h : EvA ta σ H [.int lo, .int hi]) (hb : 0 ≤ lo ∧ lo ≤ hi ∧ hi ≤ 40000) (hw : ∀ x, wipe ((wipe σ vs).set j (some x)) vs = wipe σ vs)
    (ht : ∀ (i : Nat) H1, Ex H H1 → lo + (i : Int) < hi → EvT t ((wipe σ vs).set j (some (.int (lo + (i : Int))))) H1 (f i)) (he : ∀ (i : Nat) H1, Ex H H1 → lo + (i : Int) < hi → f i = true → Ev te ((wipe σ vs).set j (some (.int (lo + (i : Int))))) H1 (v i)) :
    EvL (tLc (iRng2 ta) (gName j) t te vs) σ H (given (hi - lo).toNat f v) := fun H0 e Q q => h H0 e _ fun H1 e1 => ⟨lo, hi, rfl, ⟨by omega, by omega, by omega, by omega⟩, fun Dl hD =>
  lc_it walk_range (Cw H1 f v Dl) ⟨hD, Ex.new hD, upd_same⟩ (fun _ _ _ _ => trivial) (fun i x H2 H3 hi p y => by
    obtain ⟨rfl, rfl⟩ := y
    exact ⟨hw _, cw_turn p (by omega) (ht i H1 (e.trans e1) (by omega)) (fun hf => he i H1 (e.trans e1) (by omega) hf)⟩) (fun H' p => q Dl H' (fresh_back e1 p.1) (e1.trans p.2.1) p.2.2)⟩
theorem range7 (c : Nat) (hc : c ≤ 5000) : RgC 1 (((1 + 7 * c : Nat) : Int)) 7 c := by
  have e : Builtin.Range.rangeSize 1 (((1 + 7 * c : Nat) : Int)) 7 = (c : Int) := by
    unfold Builtin.Range.rangeSize
    rw [if_pos (by decide)]
    split <;> omega
  have fit : ∀ i : Int, 0 ≤ i → i ≤ 100000 → Builtin.Range.rangeFitsLong i = true := fun i h1 h2 => by
    unfold Builtin.Range.rangeFitsLong
    rw [decide_eq_true (by omega), decide_eq_true (by omega)]
    rfl
  refine ⟨by decide, by decide, ?_, e⟩
  unfold Builtin.Range.small
  rw [e, fit 1 (by decide) (by decide), fit _ (by omega) (by omega), fit 7 (by decide) (by decide), fit (c : Int) (by omega) (by omega), if_pos (by decide), fit _ (by omega) (by omega), Bool.or_true]
  rfl
theorem el_lcR7 {ta : TA} {j : Nat} {vs : List Nat} {c : Nat} (v : Nat → V) (h : EvA ta σ H [.int 1, .int (((1 + 7 * c : Nat) : Int)), .int 7]) (hc : c ≤ 5000) (hw : ∀ x, wipe ((wipe σ vs).set j (some x)) vs = wipe σ vs)
    (he : ∀ (i : Nat) H1, Ex H H1 → i < c → Ev te ((wipe σ vs).set j (some (.int (1 + (i : Nat) * 7)))) H1 (v i)) :
    EvL (tLc (iRng3 ta) (gName j) tYes te vs) σ H (given c (fun _ => true) v) := fun H0 e Q q => h H0 e _ fun H1 e1 => ⟨1, _, 7, c, rfl, range7 c hc, fun Dl hD =>
  lc_it walk_rangeC (Cw H1 (fun _ => true) v Dl) ⟨hD, Ex.new hD, upd_same⟩ (fun _ _ _ _ => trivial) (fun i x H2 H3 hi p y => by
    obtain ⟨rfl, rfl⟩ := y
    exact ⟨hw _, cw_turn p (by omega) et_yes (fun hf => he i H1 (e.trans e1) hi)⟩) (fun H' p => q Dl H' (fresh_back e1 p.1) (e1.trans p.2.1) p.2.2)⟩
theorem ev_intBin {l : List Nat} (h : EvA (tCons ta (tCons tb tNil)) σ H [.str (S l), .int 2]) (hne : l ≠ []) (hl : l.length ≤ 640) (hb : ∀ c ∈ l, Bi.IsBin c) : Ev (tCB Bi.rIntBin (tCons ta (tCons tb tNil))) σ H (.int ((Bi.binNum l : Nat) : Int)) := fun H1 e Q q =>
  h H1 e _ fun H2 e2 => ⟨l, rfl, hne, hl, hb, q H2 e2⟩
theorem ev_fmtB {n : Nat} (h : Ev te σ H (.int (n : Int))) (hl : (Bi.digB n).length ≤ 100000) : Ev (Bi.tFmtB te) σ H (.str (S (Bi.digB n))) := fun H1 e Q q =>
  h H1 e _ fun H2 e2 => ⟨(n : Int), rfl, by omega, hl, q H2 e2⟩
end
end Kn

/-! ### f'{n:07b}' -/
namespace Kn.Bi
open PySem PySem.Spec PyProof.Rows L2 PySem.NumText PySem.Calls PySem.W Builtin.Float
def f7 : FormatSpec := { fill := 48, align := 61, width := some 7, type := some 98 }
theorem parse_7 : parseFormatSpec (Str.ofString "07b").cps.toList "int" 62 = .ok f7 := by kernel_rfl
def pad7 (d : Nat) : List Nat := [48 + d / 64 % 2, 48 + d / 32 % 2, 48 + d / 16 % 2, 48 + d / 8 % 2, 48 + d / 4 % 2, 48 + d / 2 % 2, 48 + d % 2]
theorem field_7 : ∀ d : Nat, d < 128 → intField' f7 false [] (digB d) [] 4 = SX.S (pad7 d) := by decide +kernel
theorem meets_7 {d : Nat} {t u : Tok} (hd : d < 128) : Meets (Builtin.«int.__format__» ⟨[.int (d : Int) t, .str "07b" u], []⟩) (fun _ R s => ∀ t' k, R (.ok (.ret (.str (SX.S (pad7 d)) t'))) { s with toks := k }) := by
  apply KPc.meets_of
  intro _ _ _ _ _ _ hQ
  unfold Builtin.«int.__format__»
  refine wpAny_bind (wpAny_of_eq (a := (_, _)) rfl ?_)
  refine wpAny_bind (wpAny_of_eq (a := _) rfl ?_)
  kxf_if
  refine wpAny_bind (wpAny_typeNameOf (T := "str") (typeIs_str _ _ _) (by decide) fun _ => ?_)
  refine wpAny_bind (wpAny_of_eq (a := some _) rfl ?_)
  kxf_if
  kxf_if
  refine wpAny_bind (wpAny_typeNameOfCut_int ?_)
  rw [parse_7]
  dsimp only
  rw [if_pos (by decide +kernel)]
  show wpAny _ _ (retStr (intField' f7 (decide ((d : Int) < 0)) [] (digB (d : Int).natAbs) [] 4)) _ _ _
  have e : intField' f7 (decide ((d : Int) < 0)) [] (digB (d : Int).natAbs) [] 4 = SX.S (pad7 d) := by
    rw [decide_eq_false (by omega), Int.natAbs_natCast]
    exact field_7 d hd
  exact KXf.ret_text e (by rw [e, SX.S_len]; exact Evl.sz_of (by show 7 ≤ 100000; decide)) hQ
/-- {x:07b} of a small number -/
def tFmt7 (te : TE) : TE := fun σ H Q => te σ H fun x H1 => ∃ d : Nat, x = .int (d : Int) ∧ d < 128 ∧ Q (.str (SX.S (pad7 d))) H1
theorem pe_fmt7 {X : Cx} {e sp : Expr} {te : TE} {pos : Pos} (he : PE X e te) (hs : PE X sp (tC (.str "07b"))) : PE X (.FormattedValue e (-1) (some sp) pos) (tFmt7 te) := by
  refine ⟨fun pins s σ H Q I h => ?_⟩
  refine wpAny_FormattedValue_spec (thn (he.run pins s σ H _ I h) fun v s1 ⟨x, H1, I1, r1, d, ex, hd, q⟩ => ?_)
  subst ex
  obtain ⟨t, rfl⟩ := r1
  refine thn (hs.run pins s1 σ H1 (fun v H2 => v = .str "07b" ∧ H2 = H1) I1 ⟨rfl, rfl⟩) fun r s2 ⟨y, H2, I2, r2, ey, eH⟩ => ?_
  subst ey
  subst eH
  obtain ⟨t2, rfl⟩ := r2
  exact ⟨_, t2, rfl, KXf.field_int rfl (by decide +kernel) (by decide +kernel) (fun u => meets_7 hd) fun t' k => ⟨.str (SX.S (pad7 d)), H2, I2.tok _, ⟨_, rfl⟩, q⟩⟩
end Kn.Bi
/-! ### int(t, 2) of long texts -/
namespace Kn.Bi
open PySem PySem.Spec PyProof.Rows L2 PySem.NumText PySem.Calls
theorem wp_textL {M : Model} {A : Around} {E : Value → Shared → Prop} {s : Shared} {Q : Value → Shared → Prop} {v : Value} {text : List Nat} {B : Nat} {n : Int}
    (hK : PySem.W.Looks M s.heap (nsGet cStatics "sys.int_max_str_digits") none) (hs : ¬ (text.takeWhile (· != 0)).length ≤ 640)
    (hr : (int_private% "readNumeral") 4300 B (text.takeWhile (· != 0)) = (int_private% "Numeral.value") n)
    (ha : ((text.takeWhile (· != 0)).length == text.length) = true) (h : Q (.int n s.toks) { s with toks := s.toks + 1 }) :
    wpAny M A ((int_private% "intFromText") v text B) Q E s := by
  obtain ⟨hp, g, d, tk, os⟩ := s
  have hm : ∀ {Q : Nat → Shared → Prop} {E : Value → Shared → Prop}, Q 4300 ⟨hp, g, d, tk, os⟩ → wpAny M A Builtin.intMaxStrDigits Q E ⟨hp, g, d, tk, os⟩ := fun q => by
    unfold Builtin.intMaxStrDigits
    exact wpAny_bind (hK.here (wpAny_pure q))
  repeat (any_goals (first
    | assumption
    | (with_reducible refine wpAny_ite_false (decide_eq_false hs) ?_)
    | (with_reducible refine hm ?_)
    | (with_reducible refine wpAny_ite_true (decide_eq_true ha) ?_)
    | wp_step))
  all_goals (try rw [hr])
  all_goals (try dsimp only)
  repeat (any_goals (first
    | assumption
    | (with_reducible refine wpAny_ite_true (decide_eq_true ha) ?_)
    | wp_step))
theorem read_binL {cs : List Nat} (h : ∀ c ∈ cs, IsBin c) (hne : cs ≠ []) : (int_private% "readNumeral") 4300 2 cs = (int_private% "Numeral.value") ((binNum cs : Nat) : Int) := by
  have hx : ∀ c ∈ cs, Hx.IsHex c := fun c hc => (h c hc).hex
  have hr : ∀ c ∈ cs.reverse, Hx.IsHex c := fun c hc => hx c (List.mem_reverse.mp hc)
  refine (readNumeral_eq 4300 2 cs).trans ?_
  rw [Hx.dropB hx, Hx.signH hx]
  show judge 4300 false (based 2 cs).1 (based 2 cs).2.1 (digits? (based 2 cs).1 (((based 2 cs).2.2.reverse.dropWhile blank).reverse)) = _
  rw [based_bin h]
  show judge 4300 false 2 false (digits? 2 ((cs.reverse.dropWhile blank).reverse)) = _
  rw [Hx.dropB hr, List.reverse_reverse, digits_bin h hne]
  show (int_private% "Numeral.value") (((cs.foldl (fun acc c => acc.push (Hx.hv c)) (#[] : Array Nat)).foldl (fun acc d => acc * 2 + d) 0 : Nat) : Int) = _
  have z : (#[] : Array Nat).foldl (fun acc d => acc * 2 + d) 0 = 0 := by first | rfl | simp
  rw [push_bin, z] <;> rfl
def NoDig (h : Heap) : Prop := ∀ M : Model, PySem.W.Looks M h (nsGet cStatics "sys.int_max_str_digits") none
theorem meets_binL {x : PySem.Str} {u t : Tok} (hl : ¬ x.length ≤ 640) (h : ∀ c ∈ x.cps.toList, IsBin c) (hne : x.cps.toList ≠ []) :
    Meets (Builtin.«int.__new__» ⟨[.type "int", .str x u, .int 2 t], []⟩) (fun _ R s => NoDig s.heap ∧ R (.ok (.ret (.int ((binNum x.cps.toList : Nat) : Int) s.toks))) { s with toks := s.toks + 1 }) :=
  .of_wp fun prog w A R s ⟨hd, hQ⟩ => by
    obtain ⟨hp, g, d, tk, os⟩ := s
    have f1 := F.conv_sub_int
    have f2 := F.madeHere_int
    have f6 : typeOf (.str x u) = pure (.type "str") := rfl
    obtain ⟨e1, e2⟩ := Hx.seen_hex fun c hc => (h c hc).hex
    have hs : ¬ (numSeenOf x).length ≤ 640 := by
      rw [e2, Array.length_toList]
      exact hl
    have hr : (int_private% "readNumeral") 4300 2 (numSeenOf x) = (int_private% "Numeral.value") ((binNum x.cps.toList : Nat) : Int) := by
      rw [e2]
      exact read_binL h hne
    have ha : ((numSeenOf x).length == (numTextOf x).length) = true := by
      rw [e1, e2]
      exact beq_self_eq_true _
    have hk := Hx.Hid.mk (And.intro (hd (model prog w)) (And.intro hs (And.intro hr ha)))
    clear hs hr ha e1 e2 hl hne h
    repeat (any_goals (first
      | assumption
      | ((with_reducible show wpAny _ _ ((int_private% "intFromText") _ _ _) _ _ _); refine wp_textL hk.out.1 hk.out.2.1 hk.out.2.2.1 hk.out.2.2.2 ?_)
      | wp_step))
    all_goals first | exact ⟨_, rfl, hQ⟩ | skip
/-- int(t, 2) of any text -/
def rIntBinL : List V → Hp → VK → Prop := fun xs H Q => ∃ l : List Nat, xs = [.str (SX.S l), .int 2] ∧ l ≠ [] ∧ (∀ c ∈ l, IsBin c) ∧ Q (.int ((binNum l : Nat) : Int)) H
theorem cr_intBinL {X : Cx} (hd : PySem.W.nsIn X.K cStatics "sys.int_max_str_digits" = some none) : CallR X (.type "int") rIntBinL := by
  intro pins s σ H xs us Q I r h
  obtain ⟨l, rfl, hne, hx, q⟩ := h
  by_cases hl : l.length ≤ 640
  · exact cr_intBin pins s σ H _ us Q I r ⟨l, rfl, hne, hl, hx, q⟩
  · obtain ⟨u, w', rfl, r1, r2⟩ := vals2 r
    obtain ⟨t1, rfl⟩ := r1
    obtain ⟨t2, rfl⟩ := r2
    have nd : NoDig s.heap := fun M => PySem.W.looks_nsIn I.kIn hd
    exact callType_new F.called_int F.newNe_int (Hx.typeCall_int_2 _ _) (Hx.newCall_int_2 _ _) (fun obj => F.initArgs_range_2 obj _ _) F.entry_int_new (meets_binL (x := SX.S l) (by rw [SX.S_len]; exact hl) hx hne)
      ⟨nd, rfl, ⟨.int ((binNum l : Nat) : Int), H, I.tok _, ⟨_, rfl⟩, q⟩⟩
end Kn.Bi

/-! ### text * int -/
namespace Kn
open PySem PySem.Spec PyProof.Rows L2 Evl SX
def rMulS : R2 := fun x y H Q => ∃ (z : List Nat) (n : Nat), x = .str (S z) ∧ y = .int (n : Int) ∧ n ≤ 100000 ∧ z.length ≤ 100 ∧ Q (.str (S (List.replicate n z).flatten)) H
theorem rep_arr (z : List Nat) : ∀ (n : Nat) (a : Array Nat), ((List.replicate n z.toArray).foldl (· ++ ·) a).toList = a.toList ++ (List.replicate n z).flatten
  | 0, a => by simp
  | n + 1, a => by
    rw [List.replicate_succ, List.foldl_cons, rep_arr z n, List.replicate_succ, List.flatten_cons]
    simp
theorem op_mulS {X : Cx} : OpR X (binaryOp .Mult) rMulS := by
  intro pins s σ H x y v u Q I rx ry h
  obtain ⟨z, n, rfl, rfl, hn, hz, q⟩ := h
  obtain ⟨t, rfl⟩ := rx
  obtain ⟨t2, rfl⟩ := ry
  have hb : z.length * n ≤ 100 * 100000 := Nat.mul_le_mul hz hn
  have e : ((n : Int)).toNat = n := by omega
  have hl : decide ((S z).length * ((n : Int)).toNat > sizeLine) = false := by
    rw [e, S_len]
    exact decide_eq_false (Nat.not_lt.mpr (Nat.le_trans hb (by decide)))
  have p63 : (2 ^ 63 : Int) = 9223372036854775808 := by decide
  have g1 : decide ((n : Int) < -(2 ^ 63 : Int)) = false := decide_eq_false (by rw [p63]; omega)
  have g2 : decide ((n : Int) ≥ (2 ^ 63 : Int)) = false := decide_eq_false (by rw [p63]; omega)
  refine PySem.P.mul_str (by rw [g1, g2]; rfl) (fun h1 h2 => ?_) (fun _ _ => hl) ?_
  · rw [S_len]
    have h3 : ((z.length * n : Nat) : Int) ≤ ((10000000 : Nat) : Int) := Int.ofNat_le.mpr hb
    rw [Int.natCast_mul] at h3
    have h4 := (Int.le_ediv_iff_mul_le (show (0 : Int) < n by omega)).mpr (show ((z.length : Int)) * (n : Int) ≤ 2 ^ 63 - 1 by rw [p63]; omega)
    omega
  · have key : ∀ y : Str, y = S (List.replicate n z).flatten → ∀ t' k, EP X pins σ Q (.str y t') { s with toks := k } := fun y ey t' k => by
      subst ey
      exact ⟨.str (S (List.replicate n z).flatten), H, I.tok k, ⟨t', rfl⟩, q⟩
    split
    · next h1 =>
      have : n = 0 := by omega
      subst this
      exact ⟨by decide, key _ rfl _ _⟩
    · next h1 =>
      split
      · next h2 =>
        refine key _ ?_ _ s.toks
        rw [Bool.or_eq_true, beq_iff_eq, beq_iff_eq, S_len] at h2
        rcases h2 with h2 | h2
        · have : n = 1 := by omega
          subst this
          simp
        · have : z = [] := List.eq_nil_of_length_eq_zero h2
          subst this
          simp
      · rw [e]
        have ez : (⟨(List.replicate n (S z).cps).foldl (· ++ ·) #[]⟩ : Str) = S (List.replicate n z).flatten := by
          refine TL.ext_tl ?_
          show ((List.replicate n z.toArray).foldl (· ++ ·) #[]).toList = (List.replicate n z).flatten
          rw [rep_arr z n #[]]
          rfl
        refine ⟨?_, key _ ez _ _⟩
        rw [ez, S_len]
        simp
        exact Nat.le_trans (by rw [Nat.mul_comm]; exact hb) (by decide)
end Kn
/-! ### several except clauses, each with the same name -/
namespace Kn
open PySem PySem.Spec PyProof.Rows L2
def wManyAs (K : PySem.W.Frag) (i : Nat) (Wout : WX) (D : Ends) : List (Value × (Addr → Value → Option Addr → TS)) → WX
  | [] => Wout
  | (c, ts) :: r => fun cls d σ H => ∃ b, PySem.W.exmOne K cls c = some b ∧
      (b = true → ∀ a, H a = none → ts a cls d { nx := fun σ' H' => D.nx (σ'.set i none) H', rt := D.rt, bk := fun σ' H' => D.bk (σ'.set i none) H', ct := fun σ' H' => D.ct (σ'.set i none) H' } (σ.set i (some (.ref a))) H) ∧
      (b = false → wManyAs K i Wout D r cls d σ H)
inductive HdsAs (X : Cx) (n : Str) : List ExceptHandler → List (Value × (Addr → Value → Option Addr → TS)) → Prop
  | nil : HdsAs X n [] []
  | cons {x : Str} {c : Value} {ts : Addr → Value → Option Addr → TS} {b₀ : Stmt} {suite : List Stmt} {np pos' : Pos} {hds : List ExceptHandler} {l : List (Value × (Addr → Value → Option Addr → TS))} (hc : Names X x c)
      (hsu : ∀ (a : Addr) (oe : Obj) (cls : Value) (d : Option Addr) (pn : List (Addr × Obj)), Zc cls d oe → (∃ vs, oe.data = .fields vs) → PSs (X.suite a ((a, oe) :: pn)) (b₀ :: suite) (ts a cls d)) (r : HdsAs X n hds l) :
      HdsAs X n (.ExceptHandler (some (.Name x np)) (some n) (b₀ :: suite) pos' :: hds) ((c, ts) :: l)
section
variable {X : Cx} {body : List Stmt} {h₀ : ExceptHandler} {hds : List ExceptHandler} {l : List (Value × (Addr → Value → Option Addr → TS))} {pos : Pos} {tb : WX → TS} {Wout : WX} {n : Str} {i : Nat}
theorem ps_try_manyAs (hs : X.stack = X.env :: X.outer) (hf : X.env.frame = some X.env.locals) (hN : X.N.Nodup) (hi : X.N[i]? = some n) (hln : X.env.kindOf n = some .local) (tk : Takes X Wout)
    (hb : ∀ (W : WX) (pn : List (Addr × Obj)) (xe : Value → Shared → Prop), Takes (X.tr pn xe) W → PassesOwn (model X.prog X.w) X.A X.env xe → PSs (X.tr pn xe) body (tb W))
    (hh : HdsAs X n (h₀ :: hds) l) : PS X (.Try body (h₀ :: hds) [] [] pos) (fun D σ H => tb (wManyAs X.K i Wout D l) D σ H) := by
  refine ⟨fun pins s σ H D I h => ?_⟩
  have ok := I.ok
  have hfr : X.A.frames = some (X.env :: X.outer) := by rw [ok.frames, hs]
  have hloc : Loc X.env.scope n := .inl hln
  refine wpAny_Try_except ?_
  refine wpAny_mono ((hb (wManyAs X.K i Wout D l) (X.pn ++ pins) (fun e s₁ => wpAny (model X.prog X.w) X.A (noteFrame e X.env) (fun _ s₂ => wpAny (model X.prog X.w) X.A (setFlight e none) (fun _ s₃ =>
    wpAny (model X.prog X.w) X.A (handleBy e X.env (h₀ :: hds)) (SP X pins D) X.xe s₃) X.xe s₂) X.xe s₁) (fun u s' xx => ?_) PassesOwn.looking).run [] s σ H D (I.toTry _) h) (fun f s1 hsp => ?_) (fun e s1 he => he)
  · obtain ⟨a, B, sI, pins', σ', H', cls, d, rfl, J', nb, up, sky, na, os, ag, w⟩ := xx
    have J : Inv X pins σ' H' sI := J'.ofTry ok
    have sky' : Sky B (X.env :: X.outer) a (Zc cls d) X.env.locals s'.heap := by rw [← hs]; exact sky
    show wpAny (model X.prog X.w) X.A (noteFrame (.ref a) X.env) _ _ _
    refine Sky.land Zc.steady hfr hf sky' fun h3 fl3 up3 => ?_
    have J3 : Inv X pins σ' H' { s' with heap := h3 } := J.landed nb fl3.1 (up.trans up3) os ag
    obtain ⟨oe3, vs3, he3, hz3, hd3⟩ := fl3.there
    have notFr : ∀ {h : Heap} {o : Obj} {vs : Array Value}, h.FunFrames B (X.env :: X.outer) → h.get? a = some o → o.data = .fields vs → a ∉ frs (X.env :: X.outer) := fun {h o vs} ff e dd hm => by
      obtain ⟨_, o', e', hnf⟩ := ff.mem hm
      rw [e] at e'; cases e'
      exact hnf _ dd
    have nfr := notFr fl3.2.2.1 he3 hd3
    have nL : a ≠ X.env.locals := fun z => nfr (List.mem_filterMap.mpr ⟨X.env, List.mem_cons_self, by rw [hf, z]⟩)
    have nF : a ∉ X.fs := fun hm => by
      obtain ⟨e, he, q⟩ := List.mem_filterMap.mp hm
      exact nfr (List.mem_filterMap.mpr ⟨e, List.mem_cons_of_mem _ he, q⟩)
    have S3 := J3.suite he3 hd3 na nL nF
    have go : ∀ {hds' : List ExceptHandler} {l' : List (Value × (Addr → Value → Option Addr → TS))}, HdsAs X n hds' l' → wManyAs X.K i Wout D l' cls d σ' H' →
        wpAny (model X.prog X.w) X.A (handleBy (.ref a) X.env hds') (SP X pins D) X.xe { s' with heap := h3 } := by
      intro hds' l' hk
      induction hk with
      | nil =>
        intro w
        refine wpAny_handleBy_nil ?_
        obtain ⟨k1, k2, k3, oe, vs, T, oT, ts', he, hz, hd, h1, hr⟩ := id fl3
        unfold PySem.passOn
        refine wpAny_bind (wpAny_field he hd h1 ?_)
        rw [if_neg (show ¬ ((Value.ref T == Value.none) = true) from by simp)]
        have fin : wpAny (model X.prog X.w) X.A (setFlight (.ref a) X.env.frame) (fun _ s4 => wpAny (model X.prog X.w) X.A (throw (.ref a) : Sem Flow) (SP X pins D) X.xe s4) X.xe { s' with heap := h3 } := by
          rw [hf]
          refine HandSPX.setFlight_upZ fl3 fun h4 hh4 up4 => wpAny_throw (tk _ _ ?_)
          exact ⟨a, B, sI, pins, σ', H', cls, d, rfl, J, nb, (up.trans up3).trans up4, .inr (.inr (by rw [hs]; exact hh4)), na, os, ag, w⟩
        first
          | exact wpAny_bind (wpAny_pure (wpAny_bind fin))
          | exact wpAny_bind fin
      | @cons x c ts b₀ suite np pos' hds2 l2 hc hsu r ih =>
        intro w
        obtain ⟨b, hb1, hyes, hno⟩ := w
        refine wpAny_handleBy_cons (codeAny_handlers_test ?_) (by intro q; cases q)
        have LT : PySem.W.Looks (model X.prog X.w) h3 (typeOf (.ref a)) cls := fun A Q E s k q => wpAny_typeOf_ref (k _ _ he3) (by rw [hz3.1]; exact q)
        have LM := PySem.W.exm_one (M := model X.prog X.w) (J3.kIn) LT hb1
        have test : ∀ {Q : Value → Shared → Prop} {E : Value → Shared → Prop}, Q c { s' with heap := h3 } → wpAny (model X.prog X.w) (X.A.mark (some (.ref a))) (eval (.Name x np) X.env) Q E { s' with heap := h3 } := fun {Q E} q => by
          obtain ⟨hg, hdbg, hm | ⟨hm, hv, hnn⟩⟩ := hc
          · exact ld_glob (X := X.suite a ((a, oe3) :: (X.pn ++ pins))) S3 hg hm q hdbg
          · exact ld_blt (X := X.suite a ((a, oe3) :: (X.pn ++ pins))) S3 hg hm hv q hnn hdbg
        refine test (LM.here ?_)
        cases b with
        | true =>
          refine codeAny_handlers_suite_as ?_
          refine HandSPX.lands_againZ fl3 fun h4 fl4 up4 => ?_
          have J4 : Inv X pins σ' H' { s' with heap := h4 } := J.landed nb fl4.1 ((up.trans up3).trans up4) os ag
          obtain ⟨oe4, vs4, he4, hz4, hd4⟩ := fl4.there
          have S4 := J4.suite he4 hd4 na nL nF
          refine store_ok (X := X.suite a ((a, oe4) :: (X.pn ++ pins))) (v := .ref a) S4 hN hi hloc rfl (fun s5 S5 => ?_) (.inr hln)
          refine wpAny_mono ((hsu a oe4 cls d (X.pn ++ pins) hz4 ⟨_, hd4⟩).run [] s5 _ H' _ S5 (hyes rfl a na)) (fun f s6 hsp => ?_) (fun _ _ z => False.elim z)
          have end_ : ∀ {σ6 : L2.St} {H6 : Hp} {Q : Shared → Prop}, Inv (X.suite a ((a, oe4) :: (X.pn ++ pins))) [] σ6 H6 s6 → (∀ s7, Inv X pins (σ6.set i none) H6 s7 → Q s7) →
              wpAny (model X.prog X.w) X.A (do bindName X.env n .none; unbindBehindTheSuite X.env n pos') (fun _ s7 => Q s7) X.xe s6 := fun {σ6 H6 Q} S6 hq => gone_ok (S6.unsuite ok) hN hi hln hq
          cases f with
          | next =>
            obtain ⟨σ6, H6, S6, q6⟩ := hsp
            exact end_ S6 fun s7 J7 => ⟨_, _, J7, q6⟩
          | brk =>
            obtain ⟨σ6, H6, S6, q6⟩ := hsp
            exact end_ S6 fun s7 J7 => ⟨_, _, J7, q6⟩
          | cont =>
            obtain ⟨σ6, H6, S6, q6⟩ := hsp
            exact end_ S6 fun s7 J7 => ⟨_, _, J7, q6⟩
          | ret u =>
            obtain ⟨v6, σ6, H6, S6, r6, q6⟩ := hsp
            exact end_ S6 fun s7 J7 => ⟨_, _, _, J7, r6, q6⟩
        | false =>
          show wpAny _ X.A (handleBy (.ref a) X.env hds2) _ _ _
          exact ih (hno rfl)
    exact go hh w
  · cases f with
    | next =>
      obtain ⟨σ', H', J', q⟩ := hsp
      exact wpAny_execs_nil ⟨σ', H', J'.ofTry ok, q⟩
    | brk =>
      obtain ⟨σ', H', J', q⟩ := hsp
      exact ⟨σ', H', J'.ofTry ok, q⟩
    | cont =>
      obtain ⟨σ', H', J', q⟩ := hsp
      exact ⟨σ', H', J'.ofTry ok, q⟩
    | ret u =>
      obtain ⟨v, σ', H', J', r, q⟩ := hsp
      exact ⟨v, σ', H', J'.ofTry ok, r, q⟩
end
/-! ### defs and methods that may raise, called by name; the wish stands at the caller's slots -/
structure ClX (P : Program) (w : World) (K : PySem.W.Frag) (mg : Str → Option Value) (base : Heap) (k : Nat) (x : Str) (sp : Sp) : Prop where
  ex : ∃ (f : Addr) (fd : FuncData) (ps : List Str), FnOk P w K mg base (L2.CX P w) k f fd ps sp ∧ mg x = some (.ref f) ∧ PySem.W.keepIn K (.ref f) = true ∧ Binds K fd ps []
structure MtX (P : Program) (w : World) (K : PySem.W.Frag) (mg : Str → Option Value) (base : Heap) (k : Nat) (C : Addr) (m : Str) (sp : Sp) : Prop where
  ex : ∃ (f : Addr) (fd : FuncData) (ps : List Str), Cls K C ∧ Meth K C m f ∧ FnOk P w K mg base (L2.CX P w) k f fd ps sp ∧ Binds K fd ps []
/-- an own exception class of the program that is made by its own __init__ -/
structure Xk (P : Program) (w : World) (K : PySem.W.Frag) (mg : Str → Option Value) (base : Heap) (k : Nat) (x : Str) (C : Addr) (sp : Sp) : Prop where
  oe : OexC K C
  ex : ∃ (f : Addr) (fd : FuncData) (ps : List Str), PySem.W.findIn K (.ref C) "__init__" = some (some (.ref f)) ∧ PySem.W.typeIn K (.ref f) = some (.type "function") ∧ FnOk P w K mg base CX0 k f fd ps sp ∧ Binds K fd ps [] ∧ mg x = some (.ref C)
section
variable {P : Program} {w : World} {K : PySem.W.Frag} {mg : Str → Option Value} {base : Heap}
theorem clX_of {k : Nat} {x : Str} {sp : Sp} {st : Stmt} {f : Addr} {fd : FuncData} {ps : List Str} (ok : FnOk P w K mg base (L2.CX P w) k f fd ps sp) (F : Fun K x x st f fd) (g : mg x = some (.ref f)) (b : Binds K fd ps []) : ClX P w K mg base k x sp := ⟨f, fd, ps, ok, g, F.kp, b⟩
end
def tMethX (C : Addr) (m : Str) (sp : Sp) (E : L2.St → XK) (ta : TE) (t : TA) : TE := fun σ H Q => ta σ H fun x H1 => ∃ a dx fs, x = .ref a ∧ H1 a = some (.ins C dx fs) ∧ fs.lookup m = none ∧ t σ H1 fun vs H2 => sp (.ref a :: vs) H2 Q (E σ)
section
variable {X : Cx} {W : WX} {k j : Nat} {x m : Str} {sp : Sp} {p pos apos : Pos} {e o : Expr} {es : List Expr} {ta : TE} {t : TA} {C : Addr}
theorem pe_clX (c : ClX X.prog X.w X.K X.mg X.base k x sp) (hr : Room j X.A) (hk : k ≤ j) (hg : Gl X x) (tk : Takes X W) (ha : PA X (e :: es) t)
    (hdb : (x == ("__debug__" : Str)) = false := by decide) (he : starEach (e :: es) X.env = (false, eval e X.env) :: starEach es X.env := by rfl) (hpl : (backTo pos (starEach es X.env)).any (·.1) = false := by rfl) :
    PE X (.Call (.Name x p) (e :: es) [] pos) (tCallS sp (WE W) t) := by
  obtain ⟨f, fd, ps, F, hm, kp, b⟩ := c.ex
  exact pe_callS F (hr.mono hk) hg hm kp b (fun σ => passAt tk σ) ha hdb he hpl
theorem pe_mtX {pl : Sem Bool} (c : MtX X.prog X.w X.K X.mg X.base k C m sp) (hr : Room j X.A) (hk : k ≤ j) (tk : Takes X W) (he : PE X o ta) (ha : PA X (e :: es) t)
    (hst : starEach (e :: es) X.env = (false, eval e X.env) :: starEach es X.env := by rfl) (hpl : (backTo pos (starEach es X.env)).any (·.1) = false := by rfl)
    (ht : eval (.Call (.Attribute o m apos) (e :: es) [] pos) X.env = (do
      let ov ← eval o X.env
      standAt apos.atName
      let (f, first) ← holding [ov] (getMethod ov m pl)
      callWith pos f first (backTo pos (starEach (e :: es) X.env)) (backToKw pos (keywordEach [] X.env))) := by rfl) :
    PE X (.Call (.Attribute o m apos) (e :: es) [] pos) (tMethX C m sp (WE W) ta t) := by
  obtain ⟨f, fd, ps, hc, hm, F, b⟩ := c.ex
  refine ⟨fun pins s σ H Q I h => ?_⟩
  refine PySem.W.methodCall_KW (pl := pl) (thn (he.run pins s σ H _ I h) fun u s1 ⟨x, H1, I1, rx, a, dx, fs, ex, ea, l, q⟩ => ?_) ht
  subst ex
  obtain rfl : u = Value.ref a := rx
  refine getmeth_ok I1 ea hc hm l ?_
  refine PySem.W.callWith_K (first := [.ref a]) (h₀ := X.base) I.ok.mod.kin hm.kp (thn (ha.run pos pins s1 σ H1 _ I1 q) fun us s2 ⟨vs, H2, I2, r, q2⟩ => ⟨I2.kIn, ?_⟩) hst hpl
  exact run_fnS (us := .ref a :: us) (vs := .ref a :: vs) F (hr.mono hk) b (passAt tk σ) I2 (.cons rfl r) q2
/-- raise C(e, ..) -/
theorem ps_xk (c : Xk X.prog X.w X.K X.mg X.base k x C sp) (hr : Room j X.A) (hk : k + 1 ≤ j) (hc : X.calm = true) (tk : Takes X W) (hg : Gl X x) (ha : PA X (e :: es) t)
    (hdb : (x == ("__debug__" : Str)) = false := by decide) (he : starEach (e :: es) X.env = (false, eval e X.env) :: starEach es X.env := by rfl) (hpl : (backTo pos (starEach es X.env)).any (·.1) = false := by rfl) :
    PS X (.Raise (some (.Call (.Name x p) (e :: es) [] pos)) none apos) (fun _ σ H => tMkO C sp [] t σ H (fun cls d H' => W cls d σ H')) := by
  obtain ⟨fI, fd, ps, iC, tI, F, b, gC⟩ := c.ex
  exact ps_raise hc tk (pmk_oex c.oe iC tI F (hr.mono hk) b .nil pass0 hg gC ha hdb he hpl)
end
end Kn
/-! ### own exceptions: facts, f-strings, __init__ with one field and with four, raising -/
namespace Kn
open PySem PySem.Spec PyProof.Rows L2 Evl SX
section
variable {K : PySem.W.Frag}
theorem kit_ref {C B : Addr} {b : Bool} (hd : PySem.W.hasDictIn K B = true) (ht : PySem.W.typeIn K (.ref B) = some (.type "type")) (hs : PySem.W.subIn K (.ref C) (.ref B) = some b) (hcc : PySem.W.subIn K (.ref C) (.ref C) = some true) : PySem.W.kitOne K (.ref C) (.ref B) = some b := by
  unfold PySem.W.kitOne
  by_cases h : C = B
  · subst h
    rw [if_pos (beq_self_eq_true _)]
    exact hcc.symm.trans hs
  · rw [if_neg (fun z => h (Value.ref.inj (beq_iff_eq.mp z)))]
    obtain ⟨cd, hc, _⟩ := PySem.W.any_some hd
    show (if ((PySem.W.clsIn K B).isSome && PySem.W.typeIn K (.ref B) == some (.type "type")) = true then PySem.W.subIn K (.ref C) (.ref B) else none) = some b
    rw [if_pos (by rw [hc, ht]; rfl)]
    exact hs
structure Xc (K : PySem.W.Frag) (C B : Addr) : Prop where
  oe : OexC K C
  xc : ExcC K C
  xf : XfC K C
  me : PySem.W.exmOne K (.ref C) (.ref C) = some true
  kB : PySem.W.kitOne K (.ref C) (.ref B) = some true
end
section
variable {K : PySem.W.Frag} {σ : L2.St} {H H' H1 : Hp} {te t1 t2 t3 t4 : TE}
theorem ev_fmtS {l : List Nat} (h : Ev te σ H (.str (S l))) (hl : l.length ≤ 100000) : Ev (tFmt te) σ H (.str (S l)) := fun H1 e Q q => h H1 e _ fun H2 e2 => .inl ⟨S l, rfl, by rw [S_len]; exact sz_of hl, q H2 e2⟩
theorem ev_fmtI {n : Nat} (h : Ev te σ H (.int (n : Int))) (hn : n < 10 ^ 9) : Ev (tFmt te) σ H (.str (S (TL.numL n))) := fun H1 e Q q => h H1 e _ fun H2 e2 => .inr ⟨(n : Int), rfl, by
  rw [Int.natAbs_natCast]
  have : n.log2 < 100 := by
    by_cases h0 : n = 0
    · subst h0
      decide
    · exact (Nat.log2_lt h0).mpr (Nat.lt_trans hn (by decide))
  omega, by
  have z := num_S n
  rw [← z] at q
  exact q H2 e2⟩
theorem js_run : ∀ {ts : List TE} {ls : List (List Nat)}, Paired (fun t l => Ev t σ H (.str (S l))) ts ls → ∀ (acc : List Nat) (H1 : Hp), Ex H H1 → acc.length + (ls.map (·.length)).sum ≤ 100000 → ∀ Q : Str → Hp → Prop, (∀ H2, Ex H1 H2 → Q (S (acc ++ ls.flatten)) H2) → tJs ts (S acc) σ H1 Q
  | [], [], .nil, acc, H1, e, _, Q, q => by
    rw [List.flatten_nil, List.append_nil] at q
    exact q H1 (Ex.refl H1)
  | t :: ts, l :: ls, .cons h r, acc, H1, e, hz, Q, q => h H1 e _ fun H2 e2 => by
    rw [List.map_cons, List.sum_cons] at hz
    refine ⟨S l, rfl, ?_, ?_⟩
    · rw [S_cat, S_len, List.length_append]
      exact sz_of (by omega)
    · rw [S_cat]
      refine js_run r (acc ++ l) H2 (e.trans e2) (by rw [List.length_append]; omega) Q fun H3 e3 => ?_
      rw [List.append_assoc, ← List.flatten_cons]
      exact q H3 (e2.trans e3)
theorem ev_js {ts : List TE} {ls : List (List Nat)} (h : Paired (fun t l => Ev t σ H (.str (S l))) ts ls) (hz : (ls.map (·.length)).sum ≤ 100000) : Ev (fun σ H Q => tJs ts Str.empty σ H fun out H1 => Q (.str out) H1) σ H (.str (S ls.flatten)) := fun H1 e Q q => by
  have z : Str.empty = S [] := rfl
  show tJs ts Str.empty σ H1 _
  rw [z]
  exact js_run h [] H1 e (by rw [List.length_nil]; omega) _ fun H2 e2 => q H2 e2
/-- Base.__init__(self, text) -/
theorem q_beinit {D : Ends} {tz : TS} {a C : Addr} {ta tb : TE} {l : List Nat} (ha : Ev ta σ H (.ref a)) (hb : Ev tb σ H (.str (S l))) (oe : OexC K C) (ho : H a = some (exo a C none)) (k : ∀ H1, Ex H H1 → tz D σ H1) : tSeq (tDrop (tVeI K (tCons ta (tCons tb tNil)))) tz D σ H :=
  ha H (Ex.refl H) _ fun H1 e1 => hb H1 e1 _ fun H2 e2 => ⟨a, C, [.str (S l)], rfl, (by show 1 ≤ 1000; decide), oe, e2 _ _ (e1 _ _ ho), k H2 (e1.trans e2)⟩
/-- an exception's new dict at dx: the fields -/
def XMade (H H' : Hp) (a C dx : Addr) (fs : List (Str × V)) : Prop := H' a = some (exo a C (some dx)) ∧ H' dx = some (exd dx fs) ∧ ∀ b o, b ≠ a → b ≠ dx → H b = some o → H' b = some o
def sp_I1 (f : Str) (K : PySem.W.Frag) : Sp := fun vs H Q _ => ∃ (a C : Addr) (l : List Nat), vs = [.ref a, .str (S l)] ∧ l.length ≤ 90000 ∧ H a = some (exo a C none) ∧ OexC K C ∧ PySem.W.findIn K (.ref C) f = some none ∧
  ∀ dx H', H dx = none → dx ≠ a → XMade H H' a C dx [(f, .str (S l))] → Q .non H'
theorem xmade_new {a C dx : Addr} {f : Str} {v : V} (e : Ex H H1) (ne : dx ≠ a) : XMade H (upd (upd H1 dx (exd dx [(f, v)])) a (exo a C (some dx))) a C dx [(f, v)] :=
  ⟨upd_same, by rw [upd_ne ne, upd_same], fun b o h1 h2 h => by rw [upd_ne h1, upd_ne h2]; exact e _ _ h⟩
theorem XMade.more {a C dx : Addr} {fs : List (Str × V)} {f : Str} {v : V} (m : XMade H H1 a C dx fs) (ne : dx ≠ a) (e : Ex H1 H') : XMade H (upd H' dx (exd dx ((f, v) :: fs))) a C dx ((f, v) :: fs) :=
  ⟨by rw [upd_ne (Ne.symm ne)]; exact e _ _ m.1, upd_same, fun b o h1 h2 h => by rw [upd_ne h2]; exact e _ _ (m.2.2 b o h1 h2 h)⟩
theorem xm_raise {W : WX} {a C dx : Addr} {fs : List (Str × V)} {H2 : Hp} (e2 : Ex H H2) (na : H2 a = none) (nd : H2 dx = none) (m : XMade (upd H2 a (exo a C none)) H' a C dx fs) (hk : ∀ d H', Ex H H' → H' d = some (.xd fs) → W (.ref C) (some d) σ H') : W (.ref C) (some dx) σ (upd (del H' a) dx (.xd fs)) := by
  refine hk dx _ (fun b o hb => ?_) upd_same
  have hb2 := e2 _ _ hb
  have n1 := ne_of_none hb2 nd
  have n2 := ne_of_none hb2 na
  rw [upd_ne n1, del_ne n2]
  exact m.2.2 b o n2 n1 (by rw [upd_ne n2]; exact hb2)
theorem raise1 {W : WX} {C : Addr} {f : Str} {l : List Nat} (oe : OexC K C) (nf : PySem.W.findIn K (.ref C) f = some none) (hl : l.length ≤ 90000) (hv : Ev te σ H (.str (S l)))
    (hk : ∀ d H', Ex H H' → H' d = some (.xd [(f, .str (S l))]) → W (.ref C) (some d) σ H') : tMkO C (sp_I1 f K) [] (tCons te tNil) σ H (fun cls d H' => W cls d σ H') :=
  hv H (Ex.refl _) _ fun H2 e2 => ⟨(by show 1 ≤ 1000; decide), fun a na => ⟨a, C, l, rfl, hl, upd_same, oe, nf, fun dx H' hdx ne m =>
    ⟨rfl, dx, _, m.1, m.2.1, upd_none hdx, xm_raise e2 na (upd_none hdx) m hk⟩⟩⟩
theorem init1_body {D : Ends} {f : Str} {a C : Addr} {l m : List Nat} {tj : TE} (hj : Ev tj [some (.ref a), some (.str (S l))] H (.str (S m))) (ha : H a = some (exo a C none)) (oe : OexC K C) (nf : PySem.W.findIn K (.ref C) f = some none)
    (q : ∀ dx H', H dx = none → dx ≠ a → XMade H H' a C dx [(f, .str (S l))] → D.nx [some (.ref a), some (.str (S l))] H') : tSeq (tDrop (tVeI K (tCons (tVar 0) (tCons tj tNil)))) (tOst K f (tVar 0) (tVar 1)) D [some (.ref a), some (.str (S l))] H := by
  refine q_beinit (ev_var rfl) hj oe ha fun H1 e1 => ?_
  exact ⟨_, rfl, _, rfl, a, C, rfl, oe, nf, .inl ⟨e1 _ _ ha, fun dx hd ne => q dx _ (fresh_back e1 hd) ne (xmade_new e1 ne)⟩⟩
/-- path, line, column, reason -/
def fs4 (p : List Nat) (n c : Nat) (r : List Nat) : List (Str × V) := [("reason", .str (S r)), ("column", .int (c : Int)), ("line", .int (n : Int)), ("path", .str (S p))]
structure Nf4 (K : PySem.W.Frag) (C : Addr) : Prop where
  p : PySem.W.findIn K (.ref C) "path" = some none
  l : PySem.W.findIn K (.ref C) "line" = some none
  c : PySem.W.findIn K (.ref C) "column" = some none
  r : PySem.W.findIn K (.ref C) "reason" = some none
def Sm4 (p : List Nat) (n c : Nat) (r : List Nat) : Prop := p.length ≤ 9000 ∧ r.length ≤ 9000 ∧ n < 10 ^ 9 ∧ c < 10 ^ 9
def sp_I4 (K : PySem.W.Frag) : Sp := fun vs H Q _ => ∃ (a C : Addr) (p : List Nat) (n c : Nat) (r : List Nat), vs = [.ref a, .str (S p), .int (n : Int), .int (c : Int), .str (S r)] ∧ Sm4 p n c r ∧ H a = some (exo a C none) ∧ OexC K C ∧ Nf4 K C ∧
  ∀ dx H', H dx = none → dx ≠ a → XMade H H' a C dx (fs4 p n c r) → Q .non H'
theorem raise4 {W : WX} {C : Addr} {p r : List Nat} {n c : Nat} (oe : OexC K C) (nf : Nf4 K C) (hl : Sm4 p n c r) (h1 : Ev t1 σ H (.str (S p))) (h2 : Ev t2 σ H (.int (n : Int))) (h3 : Ev t3 σ H (.int (c : Int))) (h4 : Ev t4 σ H (.str (S r)))
    (hk : ∀ d H', Ex H H' → H' d = some (.xd (fs4 p n c r)) → W (.ref C) (some d) σ H') : tMkO C (sp_I4 K) [] (tCons t1 (tCons t2 (tCons t3 (tCons t4 tNil)))) σ H (fun cls d H' => W cls d σ H') :=
  ea_cons h1 (ea_cons h2 (ea_cons h3 (ea_cons h4 ea_nil))) H (Ex.refl _) _ fun H2 e2 => ⟨(by show 4 ≤ 1000; decide), fun a na => ⟨a, C, p, n, c, r, rfl, hl, upd_same, oe, nf, fun dx H' hdx ne m =>
    ⟨rfl, dx, _, m.1, m.2.1, upd_none hdx, xm_raise e2 na (upd_none hdx) m hk⟩⟩⟩
theorem init4_body {D : Ends} {a C : Addr} {p r m : List Nat} {n c : Nat} {tj : TE} {σ0 : L2.St} (hσ : σ0 = [some (.ref a), some (.str (S p)), some (.int (n : Int)), some (.int (c : Int)), some (.str (S r))]) (hj : Ev tj σ0 H (.str (S m))) (ha : H a = some (exo a C none)) (oe : OexC K C) (nf : Nf4 K C)
    (q : ∀ dx H', H dx = none → dx ≠ a → XMade H H' a C dx (fs4 p n c r) → D.nx σ0 H') : tSeq (tDrop (tVeI K (tCons (tVar 0) (tCons tj tNil)))) (tSeq (tOst K "path" (tVar 0) (tVar 1)) (tSeq (tOst K "line" (tVar 0) (tVar 2)) (tSeq (tOst K "column" (tVar 0) (tVar 3)) (tOst K "reason" (tVar 0) (tVar 4))))) D σ0 H := by
  subst hσ
  refine q_beinit (ev_var rfl) hj oe ha fun H1 e1 => ?_
  refine ⟨_, rfl, _, rfl, a, C, rfl, oe, nf.p, .inl ⟨e1 _ _ ha, fun dx hd ne => ?_⟩⟩
  have m1 := xmade_new (C := C) (f := "path") (v := .str (S p)) e1 ne
  refine ⟨_, rfl, _, rfl, a, C, rfl, oe, nf.l, .inr ⟨dx, _, m1.1, m1.2.1, (by show 1 ≤ 900; decide), ?_⟩⟩
  have m2 := m1.more (f := "line") (v := .int (n : Int)) ne (Ex.refl _)
  refine ⟨_, rfl, _, rfl, a, C, rfl, oe, nf.c, .inr ⟨dx, _, m2.1, m2.2.1, (by show 2 ≤ 900; decide), ?_⟩⟩
  have m3 := m2.more (f := "column") (v := .int (c : Int)) ne (Ex.refl _)
  refine ⟨_, rfl, _, rfl, a, C, rfl, oe, nf.r, .inr ⟨dx, _, m3.1, m3.2.1, (by show 3 ≤ 900; decide), ?_⟩⟩
  exact q dx _ (fresh_back e1 hd) ne (m3.more ne (Ex.refl _))
end
end Kn
/-! ### data at any depth, all of it tracked -/
namespace Kn
open PySem PySem.Spec PyProof.Rows L2 Evl SX
mutual
inductive Dt (H : Hp) : V → PyData → Prop
  | non : Dt H .non .none
  | bl (b : Bool) : Dt H (.bl b) (.bool b)
  | int (i : Int) : Dt H (.int i) (.int i)
  | str (x : Str) : Dt H (.str x) (.str x)
  | lst {a : Addr} {xs : List V} {ds : List PyData} : H a = some (.lst xs) → DtA H xs ds → Dt H (.ref a) (.list ds)
  | tup {a : Addr} {xs : List V} {ds : List PyData} : H a = some (.tup xs) → DtA H xs ds → Dt H (.ref a) (.tuple ds)
inductive DtA (H : Hp) : List V → List PyData → Prop
  | nil : DtA H [] []
  | cons {v : V} {vs : List V} {d : PyData} {ds : List PyData} : Dt H v d → DtA H vs ds → DtA H (v :: vs) (d :: ds)
end
mutual
theorem Dt.mono {H H1 : Hp} (e : Ex H H1) : ∀ {v : V} {d : PyData}, Dt H v d → Dt H1 v d
  | _, _, .non => .non
  | _, _, .bl b => .bl b
  | _, _, .int i => .int i
  | _, _, .str x => .str x
  | _, _, .lst h r => .lst (e _ _ h) (DtA.mono e r)
  | _, _, .tup h r => .tup (e _ _ h) (DtA.mono e r)
theorem DtA.mono {H H1 : Hp} (e : Ex H H1) : ∀ {vs : List V} {ds : List PyData}, DtA H vs ds → DtA H1 vs ds
  | _, _, .nil => .nil
  | _, _, .cons h r => .cons (Dt.mono e h) (DtA.mono e r)
end
mutual
theorem Dt.dp {K : PySem.W.Frag} {H : Hp} : ∀ {v : V} {d : PyData}, Dt H v d → Dp K H v d
  | _, _, .non => .non
  | _, _, .bl b => .bl b
  | _, _, .int i => .int i
  | _, _, .str x => .str x
  | _, _, .lst h r => .lst (sq_of h) (DtA.dp r)
  | _, _, .tup h r => .tup (st_of h) (DtA.dp r)
theorem DtA.dp {K : PySem.W.Frag} {H : Hp} : ∀ {vs : List V} {ds : List PyData}, DtA H vs ds → DpAll K H vs ds
  | _, _, .nil => .nil
  | _, _, .cons h r => .cons (Dt.dp h) (DtA.dp r)
end
mutual
/-- no list in it -/
def noL : PyData → Bool
  | .list _ => false
  | .dict _ => false
  | .tuple ds => noLA ds
  | .none => true
  | .bool _ => true
  | .int _ => true
  | .str _ => true
def noLA : List PyData → Bool
  | [] => true
  | d :: ds => noL d && noLA ds
end
mutual
/-- what has no list in it does not see that a list changes -/
theorem Dt.upd {H : Hp} {p : Addr} {o o' : HO} (hp : H p = some o) (ho : ∀ xs, o ≠ .tup xs) : ∀ {v : V} {d : PyData}, Dt H v d → noL d = true → Dt (L2.upd H p o') v d
  | _, _, .non, _ => .non
  | _, _, .bl b, _ => .bl b
  | _, _, .int i, _ => .int i
  | _, _, .str x, _ => .str x
  | _, _, .lst _ _, h => by
    unfold noL at h
    cases h
  | _, _, .tup h r, n => by
    unfold noL at n
    exact .tup (by rw [upd_ne (ne_of h hp fun z => ho _ z.symm)]; exact h) (DtA.upd hp ho r n)
theorem DtA.upd {H : Hp} {p : Addr} {o o' : HO} (hp : H p = some o) (ho : ∀ xs, o ≠ .tup xs) : ∀ {vs : List V} {ds : List PyData}, DtA H vs ds → noLA ds = true → DtA (L2.upd H p o') vs ds
  | _, _, .nil, _ => .nil
  | _, _, .cons h r, n => by
    unfold noLA at n
    rw [Bool.and_eq_true] at n
    exact .cons (Dt.upd hp ho h n.1) (DtA.upd hp ho r n.2)
end
theorem DtA.len {H : Hp} : ∀ {vs : List V} {ds : List PyData}, DtA H vs ds → vs.length = ds.length
  | _, _, .nil => rfl
  | _, _, .cons _ r => by rw [List.length_cons, List.length_cons, DtA.len r]
theorem DtA.snoc {H : Hp} {v : V} {d : PyData} (h : Dt H v d) : ∀ {vs : List V} {ds : List PyData}, DtA H vs ds → DtA H (vs ++ [v]) (ds ++ [d])
  | _, _, .nil => .cons h .nil
  | _, _, .cons a r => .cons a (DtA.snoc h r)
theorem DtA.app {H : Hp} {vs2 : List V} {ds2 : List PyData} (h : DtA H vs2 ds2) : ∀ {vs : List V} {ds : List PyData}, DtA H vs ds → DtA H (vs ++ vs2) (ds ++ ds2)
  | _, _, .nil => h
  | _, _, .cons a r => .cons a (DtA.app h r)
theorem DtA.get {H : Hp} : ∀ {vs : List V} {ds : List PyData}, DtA H vs ds → ∀ (i : Nat) (d : PyData), ds[i]? = some d → ∃ v, vs[i]? = some v ∧ Dt H v d
  | _, _, .cons (v := v) h r, 0, d', e => by
    cases Option.some.inj e
    exact ⟨v, rfl, h⟩
  | _, _, .cons h r, i + 1, d', e => by
    obtain ⟨v, e1, h1⟩ := DtA.get r i d' (by simpa using e)
    exact ⟨v, by simpa using e1, h1⟩
  | _, _, .nil, _, _, e => by simp at e
theorem DtA.drop {H : Hp} : ∀ {vs : List V} {ds : List PyData} (n : Nat), DtA H vs ds → DtA H (vs.drop n) (ds.drop n)
  | _, _, 0, h => h
  | _, _, n + 1, .nil => .nil
  | _, _, n + 1, .cons _ r => DtA.drop n r
theorem Dt.tup_inv {H : Hp} {v : V} {ds : List PyData} (h : Dt H v (.tuple ds)) : ∃ a xs, v = .ref a ∧ H a = some (.tup xs) ∧ DtA H xs ds := by
  cases h with
  | tup h r => exact ⟨_, _, rfl, h, r⟩
theorem Dt.lst_inv {H : Hp} {v : V} {ds : List PyData} (h : Dt H v (.list ds)) : ∃ a xs, v = .ref a ∧ H a = some (.lst xs) ∧ DtA H xs ds := by
  cases h with
  | lst h r => exact ⟨_, _, rfl, h, r⟩
theorem Dt.str_inv {H : Hp} {v : V} {x : Str} (h : Dt H v (.str x)) : v = .str x := by cases h; rfl
theorem Dt.int_inv {H : Hp} {v : V} {x : Int} (h : Dt H v (.int x)) : v = .int x := by cases h; rfl
theorem Dt.bl_inv {H : Hp} {v : V} {x : Bool} (h : Dt H v (.bool x)) : v = .bl x := by cases h; rfl
theorem Dt.non_inv {H : Hp} {v : V} (h : Dt H v .none) : v = .non := by cases h; rfl
def EvD (te : TE) (σ : L2.St) (H : Hp) (d : PyData) : Prop := ∀ H1, Ex H H1 → ∀ Q : VK, (∀ v H2, Ex H1 H2 → Dt H2 v d → Q v H2) → te σ H1 Q
def EvDA (ta : TA) (σ : L2.St) (H : Hp) (ds : List PyData) : Prop := ∀ H1, Ex H H1 → ∀ Q : List V → Hp → Prop, (∀ vs H2, Ex H1 H2 → DtA H2 vs ds → Q vs H2) → ta σ H1 Q
def RtD (H : Hp) (d : PyData) (Q : VK) : Prop := ∀ v H1, Ex H H1 → Dt H1 v d → Q v H1
theorem RtD.mono {H H1 : Hp} {d : PyData} {Q : VK} (q : RtD H d Q) (e : Ex H H1) : RtD H1 d Q := fun v H2 e2 h => q v H2 (e.trans e2) h
section
variable {K : PySem.W.Frag} {σ : L2.St} {H H' : Hp} {ta tb te : TE} {t u : TT} {x y z v : V} {d e' : PyData} {tas tr : TA} {D : Ends} {tz tu : TS} {ds : List PyData}
theorem evd_of (h : Ev te σ H v) (hd : Dt H v d) : EvD te σ H d := fun H1 e Q q => h H1 e _ fun H2 e2 => q v H2 e2 (hd.mono (e.trans e2))
theorem evd_is (h : EvD te σ H d) (e : d = e') : EvD te σ H e' := by rw [← e]; exact h
theorem EvD.mono (e : Ex H H') (h : EvD te σ H d) : EvD te σ H' d := fun H1 a Q q => h H1 (e.trans a) Q q
theorem evd_str {l : List Nat} (h : Ev te σ H (.str (S l))) : EvD te σ H (.str (S l)) := evd_of h (.str _)
theorem evd_int {i : Int} (h : Ev te σ H (.int i)) : EvD te σ H (.int i) := evd_of h (.int _)
theorem evd_bl {b : Bool} (h : Ev te σ H (.bl b)) : EvD te σ H (.bool b) := evd_of h (.bl _)
theorem evd_cS {s : Str} {l : List Nat} (h : s.cps.toList = l) : EvD (tC (.str s)) σ H (.str (S l)) := evd_str (ev_cS h)
theorem ev_ofS {l : List Nat} (h : EvD te σ H (.str (S l))) : Ev te σ H (.str (S l)) := fun H1 e Q q => h H1 e _ fun v H2 e2 hv => by
  rw [hv.str_inv]
  exact q H2 e2
theorem ev_ofI {i : Int} (h : EvD te σ H (.int i)) : Ev te σ H (.int i) := fun H1 e Q q => h H1 e _ fun v H2 e2 hv => by
  rw [hv.int_inv]
  exact q H2 e2
theorem eda_nil : EvDA tNil σ H [] := fun H1 _ _ q => q [] H1 (Ex.refl H1) .nil
theorem eda_cons (h : EvD te σ H d) (hr : EvDA tr σ H ds) : EvDA (tCons te tr) σ H (d :: ds) := fun H1 e Q q => h H1 e _ fun v H2 e2 hv => hr H2 (e.trans e2) _ fun vs H3 e3 hvs => q _ H3 (e2.trans e3) (.cons (hv.mono e3) hvs)
theorem evd_tup (h : EvDA tas σ H ds) (hl : ds.length ≤ 100000) : EvD (tTup tas) σ H (.tuple ds) := fun H1 e Q q => h H1 e _ fun vs H2 e2 hvs => ⟨by rw [hvs.len]; exact sz_of hl, fun p hp => q _ _ (e2.trans (Ex.new hp)) (.tup upd_same (hvs.mono (Ex.new hp)))⟩
theorem evd_lst (h : EvDA tas σ H ds) (hl : ds.length ≤ 100000) : EvD (tLst tas) σ H (.list ds) := fun H1 e Q q => h H1 e _ fun vs H2 e2 hvs => ⟨by rw [hvs.len]; exact sz_of hl, fun p hp => q _ _ (e2.trans (Ex.new hp)) (.lst upd_same (hvs.mono (Ex.new hp)))⟩
theorem ev_eqD (ha : EvD ta σ H d) (hb : EvD tb σ H e') (s1 : SeqAt.shaped d = true) (s2 : SeqAt.shaped e' = true) : Ev (tOp (rEqD K) ta tb) σ H (.bl (PyData.eqv d e')) := fun H1 e Q q =>
  ha H1 e _ fun v H2 e2 hv => hb H2 (e.trans e2) _ fun w H3 e3 hw => ⟨d, e', (hv.mono e3).dp, hw.dp, s1, s2, q H3 (e2.trans e3)⟩
theorem ev_neD (ha : EvD ta σ H d) (hb : EvD tb σ H e') (s1 : SeqAt.shaped d = true) (s2 : SeqAt.shaped e' = true) : Ev (tOp (rNeD K) ta tb) σ H (.bl (!PyData.eqv d e')) := fun H1 e Q q =>
  ha H1 e _ fun v H2 e2 hv => hb H2 (e.trans e2) _ fun w H3 e3 hw => ⟨d, e', (hv.mono e3).dp, hw.dp, s1, s2, q H3 (e2.trans e3)⟩
theorem evd_ifE {b : Bool} (h : EvT t σ H b) (h1 : b = true → EvD ta σ H d) (h2 : b = false → EvD tb σ H d) : EvD (tIf t ta tb) σ H d := fun H1 e Q q => h H1 e _ fun H2 e2 => by
  cases b with
  | true =>
    show ta σ H2 Q
    exact h1 rfl H2 (e.trans e2) Q fun v H3 e3 hv => q v H3 (e2.trans e3) hv
  | false =>
    show tb σ H2 Q
    exact h2 rfl H2 (e.trans e2) Q fun v H3 e3 hv => q v H3 (e2.trans e3) hv
theorem evd_call {sp : Sp} {E : XK} {vs : List V} (h : EvA tas σ H vs) (hs : ∀ H1, Ex H H1 → ∀ (Q : VK), RtD H1 d Q → ∀ E, sp vs H1 Q E) : EvD (tCall sp [] E tas) σ H d := fun H1 e Q q => h H1 e _ fun H2 e2 => by
  rw [List.append_nil]
  exact hs H2 (e.trans e2) Q (fun v H3 e3 hv => q v H3 (e2.trans e3) hv) E
theorem evd_callD {sp : Sp} {E : XK} {es : List PyData} (h : EvDA tas σ H es) (hs : ∀ H1 vs, Ex H H1 → DtA H1 vs es → ∀ (Q : VK), RtD H1 d Q → ∀ E, sp vs H1 Q E) : EvD (tCall sp [] E tas) σ H d := fun H1 e Q q => h H1 e _ fun vs H2 e2 hvs => by
  rw [List.append_nil]
  exact hs H2 vs (e.trans e2) hvs Q (fun v H3 e3 hv => q v H3 (e2.trans e3) hv) E
theorem s_retD (h : EvD te σ H d) (k : RtD H d D.rt) : tRet te D σ H := h H (Ex.refl H) _ fun v H1 e hv => k v H1 e hv
theorem s_asgD {i : Nat} (h : EvD te σ H d) (k : ∀ v H1, Ex H H1 → Dt H1 v d → D.nx (σ.set i (some v)) H1) : tAsg te (gName i) D σ H := h H (Ex.refl H) _ fun v H1 e hv => k v H1 e hv
theorem q_asgD {i : Nat} (h : EvD te σ H d) (k : ∀ v H1, Ex H H1 → Dt H1 v d → tz D (σ.set i (some v)) H1) : tSeq (tAsg te (gName i)) tz D σ H := s_asgD (D := { D with nx := tz D }) h k
theorem evd_ixT {p : Addr} {xs : List V} {i : Nat} {j : Int} (ha : Ev ta σ H (.ref p)) (hp : H p = some (.tup xs)) (hx : DtA H xs ds) (hb : Ev tb σ H (.int j)) (hj : j = (i : Int)) (hd : ds[i]? = some d) : EvD (tOp (rIxT K) ta tb) σ H d := by
  obtain ⟨v, hv, hdv⟩ := hx.get i d hd
  subst hj
  exact evd_of (ev_op ha hb (rv_ixT (st_of hp) (atI_nat hv))) hdv
theorem evd_ixL {p : Addr} {xs : List V} {i : Nat} {j : Int} (ha : Ev ta σ H (.ref p)) (hp : H p = some (.lst xs)) (hx : DtA H xs ds) (hb : Ev tb σ H (.int j)) (hj : j = (i : Int)) (hd : ds[i]? = some d) : EvD (tOp (rIxL K) ta tb) σ H d := by
  obtain ⟨v, hv, hdv⟩ := hx.get i d hd
  subst hj
  exact evd_of (ev_op ha hb (rv_ixL (sq_of hp) (atI_nat hv))) hdv
end
/-- strings as data -/
def okS (l : List Nat) : Bool := l.all fun c => decide (c < 1114112)
theorem canS {l : List Nat} (h : okS l = true) : PyData.canLay0 (.str (S l)) = true := by
  unfold PyData.canLay0 PyData.strOk
  rw [show (S l).cps = l.toArray from rfl]
  simpa [okS] using h
theorem eqv_str (a b : List Nat) : PyData.eqv (.str (S a)) (.str (S b)) = decide (a = b) := by
  unfold PyData.eqv
  by_cases h : a = b
  · subst h
    simp
  · rw [decide_eq_false h]
    exact beq_eq_false_iff_ne.mpr fun z => h (S_inj z)
end Kn
/-! ### sorted texts -/
namespace Kn
open PySem PySem.Spec PyProof.Rows L2 Evl SX
def leS (a b : Str) : Prop := a.cps.toList ≤ b.cps.toList
theorem rising_pw : ∀ (r : List Str) (x : Str), risingS x r = true → List.Pairwise leS (x :: r)
  | [], x, _ => by simp
  | y :: r, x, h => by
    unfold risingS at h
    rw [Bool.and_eq_true] at h
    have hxy : leS x y := List.not_lt.mp fun z => by
      have h1 := h.1
      rw [PyProof.Rows.ltCps_eq, decide_eq_true z] at h1
      cases h1
    have ih := rising_pw r y h.2
    refine List.pairwise_cons.mpr ⟨fun z hz => ?_, ih⟩
    rcases List.mem_cons.mp hz with e | e
    · rw [e]
      exact hxy
    · exact List.le_trans hxy ((List.pairwise_cons.mp ih).1 z e)
theorem sorted_pw {l : List Str} (h : sortedS l = true) : List.Pairwise leS l := by
  cases l with
  | nil => exact .nil
  | cons x r => exact rising_pw r x h
theorem sorted_uniq {l m : List Str} (h1 : sortedS l = true) (h2 : sortedS m = true) (p : l.Perm m) : l = m :=
  List.Perm.eq_of_pairwise (le := leS) (fun a b _ _ x y => TL.ext_tl (List.le_antisymm x y)) (sorted_pw h1) (sorted_pw h2) p
end Kn
namespace Kn
open PySem PySem.Spec PyProof.Rows L2 Evl SX
section
variable {K : PySem.W.Frag} {σ : L2.St} {H H' : Hp} {ta tb td ty te : TE} {t u : TT} {x y z v : V} {d p : Addr} {kvs : List (Key × V)} {k : List Nat}
theorem ev_dnotin (h2 : Ev ty σ H (.str (S k))) (h1 : Ev td σ H (.ref d)) (hd : H d = some (.dK kvs)) : Ev (tDNotIn ty td) σ H (.bl (!(valV kvs (Sum.inr (S k))).isSome)) := fun H1 e Q q =>
  h2 H1 e _ fun H2 e2 => h1 H2 (e.trans e2) _ fun H3 e3 => ⟨d, _, rfl, DGet.k (k := (Sum.inr (S k) : Key)) (((e.trans e2).trans e3) _ _ hd), q H3 (e2.trans e3)⟩
theorem et_dnotin (h2 : Ev ty σ H (.str (S k))) (h1 : Ev td σ H (.ref d)) (hd : H d = some (.dK kvs)) : EvT (tB (tDNotIn ty td)) σ H (!(valV kvs (Sum.inr (S k))).isSome) := et_B (ev_dnotin h2 h1 hd)
/-- text * int -/
theorem rv_mulS {l : List Nat} {n : Nat} (hn : n ≤ 100000) (hl : l.length ≤ 100) : RV rMulS (.str (S l)) (.int (n : Int)) H (.str (S (List.replicate n l).flatten)) := fun H1 _ _ q => ⟨l, n, rfl, rfl, hn, hl, q H1 (Ex.refl H1)⟩
theorem flat_one (n c : Nat) : (List.replicate n [c]).flatten = List.replicate n c := by
  induction n with
  | zero => rfl
  | succ n ih => rw [List.replicate_succ, List.flatten_cons, ih, List.replicate_succ]; rfl
theorem ev_mul1 {s : Str} {c n : Nat} {i : Int} (hs : s.cps.toList = [c]) (h : Ev te σ H (.int i)) (hi : i = (n : Int)) (hn : n ≤ 100000) : Ev (tOp rMulS (tC (.str s)) te) σ H (.str (S (List.replicate n c))) := by
  rw [← flat_one]
  subst hi
  exact ev_op (ev_cS hs) h (rv_mulS hn (by show 1 ≤ 100; decide))
end
end Kn
namespace Kn
open PySem PySem.Spec PyProof.Rows L2 Evl SX
section
variable {K : PySem.W.Frag} {i : Nat} {Wout : WX} {D : Ends} {c cls : Value} {ts : Addr → Value → Option Addr → TS} {l : List (Value × (Addr → Value → Option Addr → TS))} {d : Option Addr} {σ : L2.St} {H : Hp}
theorem many_hit (h : PySem.W.exmOne K cls c = some true) (k : ∀ a, H a = none → ts a cls d { nx := fun σ' H' => D.nx (σ'.set i none) H', rt := D.rt, bk := fun σ' H' => D.bk (σ'.set i none) H', ct := fun σ' H' => D.ct (σ'.set i none) H' } (σ.set i (some (.ref a))) H) :
    wManyAs K i Wout D ((c, ts) :: l) cls d σ H := ⟨true, h, (fun _ a na => k a na), (fun z => nomatch z)⟩
theorem many_skip (h : PySem.W.exmOne K cls c = some false) (k : wManyAs K i Wout D l cls d σ H) : wManyAs K i Wout D ((c, ts) :: l) cls d σ H := ⟨false, h, (fun z => nomatch z), fun _ => k⟩
theorem as_hit (h : PySem.W.exmOne K cls c = some true) (k : ∀ a, H a = none → ts a cls d { nx := fun σ' H' => D.nx (σ'.set i none) H', rt := D.rt, bk := fun σ' H' => D.bk (σ'.set i none) H', ct := fun σ' H' => D.ct (σ'.set i none) H' } (σ.set i (some (.ref a))) H) :
    wAs K c i ts Wout D cls d σ H := ⟨true, h, (fun _ a na => k a na), (fun z => nomatch z)⟩
end
end Kn
namespace Kn
open PySem PySem.Spec PyProof.Rows L2 Evl SX
mutual
theorem Dt.tups {H H1 : Hp} (e : ∀ q xs, H q = some (.tup xs) → H1 q = some (.tup xs)) : ∀ {v : V} {d : PyData}, Dt H v d → noL d = true → Dt H1 v d
  | _, _, .non, _ => .non
  | _, _, .bl b, _ => .bl b
  | _, _, .int i, _ => .int i
  | _, _, .str x, _ => .str x
  | _, _, .lst _ _, n => by
    unfold noL at n
    cases n
  | _, _, .tup h r, n => by
    unfold noL at n
    exact .tup (e _ _ h) (DtA.tups e r n)
theorem DtA.tups {H H1 : Hp} (e : ∀ q xs, H q = some (.tup xs) → H1 q = some (.tup xs)) : ∀ {vs : List V} {ds : List PyData}, DtA H vs ds → noLA ds = true → DtA H1 vs ds
  | _, _, .nil, _ => .nil
  | _, _, .cons h r, n => by
    unfold noLA at n
    rw [Bool.and_eq_true] at n
    exact .cons (Dt.tups e h n.1) (DtA.tups e r n.2)
end
end Kn
namespace Kn
open PySem PySem.Spec PyProof.Rows L2 Evl SX
theorem Paired.unmap {α β γ : Type} {F : α → γ → Prop} {u : β → γ} : ∀ {as : List α} {bs : List β}, Paired F as (bs.map u) → Paired (fun a b => F a (u b)) as bs
  | _, [], .nil => .nil
  | _, b :: bs, .cons h t => .cons h (Paired.unmap t)
end Kn
/-! ### sorted(d), text keys, any number -/
namespace Kn
open PySem PySem.Spec PyProof.Rows L2 Evl SX
def rSortDA (K : PySem.W.Frag) : List V → Hp → VK → Prop := fun xs H Q => ∃ (a : Addr) (kvs : List (Key × V)) (ks : List Str), xs = [.ref a] ∧ Rd H a (.dK kvs) ∧ kvs.map (·.1) = ks.map Sum.inr ∧ ks.length ≤ 100000 ∧ ∀ ys p, ys.Perm ks → sortedS ys = true → H p = none → Q (.ref p) (L2.upd H p (.lst (ys.map V.str)))
theorem cr_sortDA {X : Cx} (hcalm : X.calm = true) : CallR X (.builtin "sorted") (rSortDA X.K) := by
  intro pins s σ H xs us Q I r q
  obtain ⟨a, kvs, ks, ex, hd, hks, h64, q⟩ := q
  subst ex
  obtain ⟨u, eu, rx⟩ := vals1 r
  subst eu
  cases rx
  obtain ⟨z, lo, vs, rel, dd⟩ := dk_rd I.hok hd
  obtain ⟨ep, hat⟩ := dd.dictAt
  have hkeys : vs.map (·.1) = ks.map Sum.inr := rel.keys.symm.trans hks
  have hl : vs.length = ks.length := by
    have e := congrArg List.length hkeys
    rw [List.length_map, List.length_map] at e
    exact e
  have h16 : vs.length ≤ sizeLine := by rw [hl, sizeLine_eq]; omega
  refine Calls.call_function_entry PyProof.Rows.kind_sorted PyProof.Rows.plain_sorted PyProof.Rows.entry_sorted (PyProof.Rows.args_sorted1 _) ?_
  unfold Builtin.«sorted»
  refine wpAny_bind (m := checkCount "sorted" 1 1 _) (wpAny_pure ?_)
  refine wpAny_bind (PySem.W.kdu_collect (A := X.A.in1) (PySem.W.kdl_dict (knd := mixKind X.prog X.w) (kvs := vs) (ep := ep) lo) (I.ok.hd hcalm) hat h16 fun h' tk acc hk hacc => ?_)
  have hal : acc.toList.length = ks.length := by rw [Array.length_toList, hacc.1, hl]
  have hS : StrsAre acc.toList ks := strs_at hal fun j v e => by
    obtain ⟨k, x, e1, e2⟩ := hacc.2 j v (by rw [← Array.getElem?_toList]; exact e)
    have e3 : (vs.map (·.1))[j]? = some k := by rw [List.getElem?_map, e1]; all_goals rfl
    rw [hkeys, List.getElem?_map] at e3
    cases e4 : ks[j]? with
    | none => rw [e4] at e3; cases e3
    | some y =>
      rw [e4] at e3
      have e5 : Sum.inr y = k := Option.some.inj e3
      subst e5
      obtain ⟨t, ev⟩ := Value.isStrOf_shape (x := y) (v := v) e2
      exact ⟨y, t, rfl, ev⟩
  have I1 : Inv X pins σ H { s with heap := h', toks := tk } := I.kept hk
  refine wpAny_bind (wpAny_newList ?_ (by rw [hal, sizeLine_eq]; omega))
  have hoL : (h'.push (seqObj "list" acc.toList.toArray 0)).get? h'.objs.size = some (seqObj "list" acc.toList.toArray 0) := Heap.get?_push_size _ rfl
  show wpAny _ _ _ _ _ { s with heap := h'.push (seqObj "list" acc.toList.toArray 0), toks := tk }
  refine wpAny_bind (wpAny_holding (wpAny_call_entry PyProof.Rows.slot_list_sort ⟨_, hoL, rfl⟩ PyProof.Rows.entry_list_sort
    (list_sort_treeKAny strKind_oneLt (s := { s with heap := h'.push (seqObj "list" acc.toList.toArray 0), toks := tk }) hoL hS.keysOf (fun v₁ v₂ rest e => keyKind_strs (by rw [← e]; exact hS)) (by rw [hal, sizeLine_eq]; omega) fun st' hp hs => ⟨_, rfl, ?_⟩)
    (PyProof.Rows.args_list_sort _)))
  obtain ⟨ys, g1, g2, g3⟩ := sorted_out_str hS hp hs
  obtain ⟨e', he'⟩ := PyProof.Rows.sortedHeap_at (vs := acc.toList) (out := (arrOf st').map (·.2)) hoL
  have hlen : (ys.map V.str).length ≤ sizeLine := by
    rw [List.length_map, g2.length_eq]
    exact Evl.sz_of h64
  refine wpAny_pure ⟨_, rfl, .ref h'.objs.size, L2.upd H h'.objs.size (.lst (ys.map V.str)), I1.laid (t' := tk) (fun b u e => ?_) (Nat.le_refl _)
    (show ObjOk X.prog X.w _ _ _ (.lst (ys.map V.str)) from ⟨hlen, ((arrOf st').map (·.2)).toList, e', vals_of_strs g1, by rw [Array.toArray_toList]; exact he'⟩), rfl, q ys _ g2 g3 (I1.hok.fresh (Nat.le_refl _))⟩
  have hb : b < h'.objs.size := Heap.lt_size e
  rw [PyProof.Rows.sortedHeap_old (Nat.ne_of_lt hb) (by rw [size_push']; exact Nat.lt_succ_of_lt hb)]
  exact Heap.get?_push_of_some _ e
end Kn
namespace Kn
open PySem PySem.Spec PyProof.Rows L2 Evl SX
def rLenD : List V → Hp → VK → Prop := fun xs H Q => ∃ d kvs, xs = [.ref d] ∧ H d = some (.dK kvs) ∧ Q (.int kvs.length) H
theorem cr_lenD {X : Cx} : CallR X (.builtin "len") rLenD := call_lenD
theorem ev_lenD {σ : L2.St} {H : Hp} {td : TE} {d : Addr} {kvs : List (Key × V)} (h : Ev td σ H (.ref d)) (hd : H d = some (.dK kvs)) : Ev (tCB rLenD (tCons td tNil)) σ H (.int (kvs.length : Int)) := fun H1 e Q q => h H1 e _ fun H2 e2 => ⟨d, kvs, rfl, (e.trans e2) _ _ hd, q H2 e2⟩
end Kn
namespace Kn
open PySem PySem.Spec PyProof.Rows L2 Evl SX
section
variable {K : PySem.W.Frag} {σ : L2.St} {H : Hp} {te : TE}
/-- n % m, n // m of naturals; a sign and a number -/
theorem ev_mod {n m : Nat} {k : Int} (h : Ev te σ H (.int (n : Int))) (hk : k = (m : Int)) (hm : 0 < m) : Ev (tOp (rI (fun _ j => 0 < j) fun i j => .int (i % j)) te (tC (.int k))) σ H (.int ((n % m : Nat) : Int)) := by
  subst hk
  rw [Int.natCast_emod]
  exact ev_op h ev_c (rv_mod (by omega))
theorem ev_div {n m : Nat} {k : Int} (h : Ev te σ H (.int (n : Int))) (hk : k = (m : Int)) (hm : 0 < m ∧ m < 1073741824) : Ev (tOp (rI CDiv fun i j => .int (i / j)) te (tC (.int k))) σ H (.int ((n / m : Nat) : Int)) := by
  subst hk
  rw [Int.natCast_ediv]
  exact ev_op h ev_c (rv_fdiv ⟨by omega, by omega⟩)
theorem ev_nm {s : Str} {n : Nat} {c : Nat} (hs : s.cps.toList = [c]) (hn : n < 1000) (h : Ev te σ H (.int (n : Int))) : Ev (tOp rAddS (tC (.str s)) (tCB rStrInt (tCons te tNil))) σ H (.str (S ([c] ++ TL.numL n))) := by
  have hl : (TL.numL n).length ≤ 3 := by
    have z : ∀ m < 1000, (TL.numL m).length ≤ 3 := by decide +kernel
    exact z n hn
  exact ev_op (ev_cS hs) (ev_strInt h hn) (rv_addS (by rw [List.length_singleton]; omega))
theorem et_eqN {n m : Nat} {k : Int} (h : Ev te σ H (.int (n : Int))) (hk : k = (m : Int)) : EvT (tTest (tOp rEq te (tC (.int k)))) σ H (decide (n = m)) := by
  subst hk
  exact et_is (et_test (ev_op h ev_c rv_eqI)) (by rw [decide_eq_decide]; omega)
theorem ev_eqN {n m : Nat} {k : Int} (h : Ev te σ H (.int (n : Int))) (hk : k = (m : Int)) : Ev (tOp rEq te (tC (.int k))) σ H (.bl (decide (n = m))) := by
  subst hk
  exact ev_is (ev_op h ev_c rv_eqI) (by rw [show decide ((n : Int) = (m : Int)) = decide (n = m) from by rw [decide_eq_decide]; omega])
theorem et_ltN {n m : Nat} {k : Int} (h : Ev te σ H (.int (n : Int))) (hk : k = (m : Int)) : EvT (tTest (tOp (rI0 fun i j => .bl (decide (i < j))) te (tC (.int k)))) σ H (decide (n < m)) := by
  subst hk
  exact et_is (et_test (ev_op h ev_c rv_lt)) (by rw [decide_eq_decide]; omega)
end
theorem shaped_tup {ds : List PyData} (h : PyData.canLayAll0 ds = true) (hd : PyData.depth (.tuple ds) ≤ 64) : SeqAt.shaped (.tuple ds) = true := by
  show (PyData.canLayAll0 ds && decide (PyData.depth (.tuple ds) ≤ 64)) = true
  rw [h, decide_eq_true hd]
  rfl
theorem shaped_lst {ds : List PyData} (h : PyData.canLayAll0 ds = true) (hd : PyData.depth (.list ds) ≤ 64) : SeqAt.shaped (.list ds) = true := by
  show (PyData.canLayAll0 ds && decide (PyData.depth (.list ds) ≤ 64)) = true
  rw [h, decide_eq_true hd]
  rfl
theorem can_cons {d : PyData} {ds : List PyData} (h : PyData.canLay0 d = true) (r : PyData.canLayAll0 ds = true) : PyData.canLayAll0 (d :: ds) = true := by
  show (PyData.canLay0 d && PyData.canLayAll0 ds) = true
  rw [h, r]
  rfl
theorem can_nil : PyData.canLayAll0 [] = true := rfl
theorem eqv_self {d : PyData} (h : SeqAt.shaped d = true) : PyData.eqv d d = true := SeqAt.eqv_refl _ (SeqAt.canLay_of_shaped h)
theorem canL_strs : ∀ {ys : List Str}, (∀ y ∈ ys, okS y.cps.toList = true) → PyData.canLayAll0 (ys.map .str) = true
  | [], _ => rfl
  | y :: r, h => by
    have e : y = S y.cps.toList := by
      refine TL.ext_tl ?_
      rfl
    rw [List.map_cons]
    refine can_cons ?_ (canL_strs fun z hz => h z (List.mem_cons_of_mem _ hz))
    rw [e]
    exact canS (h y List.mem_cons_self)
theorem depth_strs : ∀ ys : List Str, PyData.depthAll (ys.map .str) = 0
  | [] => rfl
  | y :: r => by
    show max 0 (PyData.depthAll (r.map .str)) = 0
    rw [depth_strs r]
    rfl
theorem shaped_strs {ys : List Str} (h : ∀ y ∈ ys, okS y.cps.toList = true) : SeqAt.shaped (.list (ys.map .str)) = true := by
  show (PyData.canLayAll0 (ys.map .str) && decide (PyData.depthAll (ys.map .str) + 1 ≤ 64)) = true
  rw [canL_strs h, depth_strs]
  rfl
theorem dta_strs {H : Hp} : ∀ ys : List Str, DtA H (ys.map V.str) (ys.map .str)
  | [] => .nil
  | y :: r => .cons (.str y) (dta_strs r)
/-- the part of a try that returns (word, o.m(..)) -/
theorem done_ret {C p dx : Addr} {m : Str} {sp : Sp} {W : WX} {fs : List (Str × V)} {σ : L2.St} {H : Hp} {D : Ends} {tA : TA} {vs : List V} {word : Str} (hσ : σ[0]? = some (some (.ref p))) (ho : H p = some (.ins C dx fs)) (hm : fs.lookup m = none) (hA : EvA tA σ H vs)
    (hs : ∀ H1, Ex H H1 → sp (.ref p :: vs) H1 (fun v H2 => [V.str word, v].length ≤ sizeLine ∧ ∀ q, H2 q = none → D.rt (.ref q) (L2.upd H2 q (.tup [.str word, v]))) (WE W σ)) :
    tRet (tTup (tCons (tC (.str word)) (tCons (tMethX C m sp (WE W) (tVar 0) tA) tNil))) D σ H :=
  ⟨_, hσ, p, dx, fs, rfl, ho, hm, hA H (Ex.refl _) _ fun H1 e1 => hs H1 e1⟩
end Kn
/-! ### a dict of the module with text keys: what it holds at each key -/
namespace Kn
open PySem PySem.Spec PyProof.Rows L2 Evl SX
/-- the entries as they stand: keys and values -/
def wdLook (es : List (Str × V)) (z : Str) : Option V := (es.find? fun e => decide (e.1 = z)).map (·.2)
structure WD (K : PySem.W.Frag) (w : World) (mg : Str → Option Value) (x : Str) (D : Addr) (f : List (Str × V)) : Prop where
  mg : mg x = some (.ref D)
  ex : ∃ es n, KDict K w D es n
  at_ : ∀ z, ∃ r, PySem.W.nsIn K D z = some r ∧ ((wdLook f z = none ∧ r = none) ∨ ∃ v u, wdLook f z = some v ∧ r = some u ∧ RelV v u)
inductive EntsAre : List DictEntry → List (Str × V) → Prop
  | nil : EntsAre [] []
  | cons {e : DictEntry} {es : List DictEntry} {x : Str} {v : V} {f : List (Str × V)} (hk : ∃ t, e.key = .str x t) (hv : RelV v e.val) (r : EntsAre es f) : EntsAre (e :: es) ((x, v) :: f)
theorem EntsAre.find : ∀ {es : List DictEntry} {f : List (Str × V)}, EntsAre es f → ∀ z : Str, ((es.find? (·.key.isStr z)) = none ∧ wdLook f z = none ∧ es.any (·.refKey) = false) ∨ ∃ e v, es.find? (·.key.isStr z) = some e ∧ wdLook f z = some v ∧ RelV v e.val
  | _, _, .nil, z => .inl ⟨rfl, rfl, rfl⟩
  | _, _, .cons (e := e) (es := es) (x := x) (v := v) (f := f) ⟨t, hk⟩ hv r, z => by
    unfold wdLook
    rw [List.find?_cons, List.find?_cons]
    have h1 : e.key.isStr z = decide (x = z) := by
      rw [hk]
      show (x == z) = decide (x = z)
      by_cases h : x = z
      · rw [h, decide_eq_true rfl]
        exact beq_self_eq_true z
      · rw [decide_eq_false h]
        exact beq_eq_false_iff_ne.mpr h
    rw [h1]
    by_cases h : x = z
    · rw [decide_eq_true h]
      exact .inr ⟨e, v, rfl, rfl, hv⟩
    · rw [decide_eq_false h]
      rcases EntsAre.find r z with ⟨a, b, c⟩ | ⟨e2, v2, a, b, c⟩
      · refine .inl ⟨a, b, ?_⟩
        rw [List.any_cons, c, Bool.or_false]
        unfold DictEntry.refKey
        rw [hk]
      · exact .inr ⟨e2, v2, a, b, c⟩
theorem wd_of {K : PySem.W.Frag} {w : World} {mg : Str → Option Value} {x : Str} {D : Addr} {es : Array DictEntry} {n : Nat} {f : List (Str × V)} (g : mg x = some (.ref D)) (h : K.lookup D = some ⟨.type "dict", none, .dict es n, #[]⟩) (low : (D == sysModules) = false) (lit : PySem.W.KeysLit w.params es.toList) (ea : EntsAre es.toList f) : WD K w mg x D f :=
  ⟨g, ⟨es, n, h, lit, low⟩, fun z => by
    unfold PySem.W.nsIn
    rw [h]
    dsimp only
    rcases ea.find z with ⟨a, b, c⟩ | ⟨e, v, a, b, c⟩
    · rw [a, c]
      exact ⟨none, rfl, .inl ⟨b, rfl⟩⟩
    · rw [a]
      exact ⟨some e.val, rfl, .inr ⟨v, _, b, rfl, c⟩⟩⟩
def rWIn (D : Addr) (f : List (Str × V)) : R2 := fun x y H Q => ∃ z : Str, x = .str z ∧ y = .ref D ∧ Q (.bl (wdLook f z).isSome) H
def rWNin (D : Addr) (f : List (Str × V)) : R2 := fun x y H Q => ∃ z : Str, x = .str z ∧ y = .ref D ∧ Q (.bl (!(wdLook f z).isSome)) H
def rIxW (D : Addr) (f : List (Str × V)) : R2 := fun x y H Q => ∃ (z : Str) (v : V), x = .ref D ∧ y = .str z ∧ wdLook f z = some v ∧ Q v H
def tWGet2 (D : Addr) (f : List (Str × V)) (td ty tx : TE) : TE := fun σ H Q => td σ H fun x H1 => x = .ref D ∧ ty σ H1 fun y H2 => tx σ H2 fun d H3 => ∃ z : Str, y = .str z ∧ Q ((wdLook f z).getD d) H3
section
variable {X : Cx} {x : Str} {D : Addr} {f : List (Str × V)} {pos apos cpos : Pos} {o e e2 : Expr} {td ty tx : TE}
theorem pe_wd (W : WD X.K X.w X.mg x D f) (hg : Gl X x) (hd : (x == ("__debug__" : Str)) = false := by decide) : PE X (.Name x pos) (tC (.ref D)) := pe_glob hg W.mg rfl hd
theorem WD.same {K : PySem.W.Frag} {w : World} {mg : Str → Option Value} (W : WD K w mg x D f) (z : Str) : ∃ r, PySem.W.nsIn K D z = some r ∧ r.isSome = (wdLook f z).isSome := by
  obtain ⟨r, h, h2⟩ := W.at_ z
  refine ⟨r, h, ?_⟩
  rcases h2 with ⟨a, b⟩ | ⟨v, u, a, b, _⟩ <;> rw [a, b] <;> rfl
theorem op_in_wd (W : WD X.K X.w X.mg x D f) : OpR X (compareOp .In) (rWIn D f) := by
  intro pins s σ H x y v u Q I rx ry h
  obtain ⟨z, rfl, rfl, q⟩ := h
  obtain ⟨es, n, hD⟩ := W.ex
  obtain ⟨r, h1, h2⟩ := W.same z
  exact op_in_kd hD pins s σ H _ _ v u Q I rx ry ⟨z, r, rfl, rfl, h1, by rw [h2]; exact q⟩
theorem op_notIn_wd (W : WD X.K X.w X.mg x D f) : OpR X (compareOp .NotIn) (rWNin D f) := by
  intro pins s σ H x y v u Q I rx ry h
  obtain ⟨z, rfl, rfl, q⟩ := h
  obtain ⟨es, n, hD⟩ := W.ex
  obtain ⟨r, h1, h2⟩ := W.same z
  exact op_notIn_kd hD pins s σ H _ _ v u Q I rx ry ⟨z, r, rfl, rfl, h1, by rw [h2]; exact q⟩
theorem ix_wd (W : WD X.K X.w X.mg x D f) : IxR X (rIxW D f) := by
  intro value slice pins s σ H x y v u Q I rx ry h hs
  obtain ⟨z, v0, rfl, rfl, h0, q⟩ := h
  obtain ⟨es, n, hD⟩ := W.ex
  obtain ⟨r, h1, h2⟩ := W.at_ z
  rcases h2 with ⟨a, b⟩ | ⟨v1, u1, a, b, c⟩
  · rw [h0] at a
    cases a
  · rw [h0] at a
    cases Option.some.inj a
    subst b
    obtain rfl : v = Value.ref D := rx
    obtain ⟨t, rfl⟩ := (show ∃ t, u = Value.str z t from ry)
    have hm' := PySem.W.mapOf_K (prog := X.prog) (w := X.w) I.kIn hD.at_ hD.lit
    exact tail_any hm'.typeIs slot_dict_getitem.lookup (wpAny_getItem_of (PySem.strKind_is X.prog X.w z t) hm' (PySem.W.find_K hD.at_ h1) ⟨v0, H, I.tok _, c, q⟩) hs
theorem pe_wget2 (W : WD X.K X.w X.mg x D f) (ho : PE X o td) (he : PE X e ty) (hf : PE X e2 tx) (m : M2 X o "get" apos e e2 cpos) : PE X (.Call (.Attribute o "get" apos) [e, e2] [] cpos) (tWGet2 D f td ty tx) := by
  refine ⟨fun pins s σ H Q I h => ?_⟩
  obtain ⟨es, n, hD⟩ := W.ex
  refine wpAny_Call_method m.base m.few m.line PySem.F.plainAttrs_dict PySem.F.slot_dict_get PySem.F.type_dict_get (thn (ho.run pins s σ H _ I h) fun u s1 ⟨y1, H1, I1, rx, ex, q1⟩ => ?_)
  subst ex
  obtain rfl : u = Value.ref D := rx
  have hk := fun (h : Heap) (k : X.K.In h) => k _ _ hD.at_
  refine ⟨kd_type hD I1, fun b q => ?_, ?_⟩
  · cases q
    exact ⟨_, hk _ I1.kIn, rfl⟩
  rw [m.trees]
  refine Calls.callWith_builtin rfl (Calls.evalArgs_plain (Calls.spliced_cons (thn (he.run pins s1 σ H1 _ I1 q1) fun iv s2 ⟨y, H2, I2, ry, q2⟩ =>
    Calls.spliced_cons (thn (hf.run pins s2 σ H2 _ I2 q2) fun fv s3 ⟨d, H3, I3, rz, z, ey, q3⟩ => Calls.spliced_nil ?_))))
  subst ey
  obtain ⟨t, rfl⟩ := (show ∃ t, iv = Value.str z t from ry)
  obtain ⟨r, h1, h2⟩ := W.at_ z
  have hm' := PySem.W.mapOf_K (prog := X.prog) (w := X.w) I3.kIn hD.at_ hD.lit
  refine call_meetsIn PySem.F.slot_dict_get hm'.typeIs PySem.F.entry_dict_get (PySem.F.args_dict_get_3 _ _ _) (meets_dict_get_default (strKind X.prog X.w) D (PySem.strKind_is X.prog X.w z t) hD.low fv) ⟨_, hm', ?_⟩
  have hf1 := PySem.W.find_K hD.at_ h1
  rw [hf1]
  refine ⟨(wdLook f z).getD d, H3, I3.tok _, ?_, q3⟩
  rcases h2 with ⟨a, b⟩ | ⟨v1, u1, a, b, c⟩
  · rw [a, b]
    exact rz
  · rw [a, b]
    exact c
end
section
variable {σ : L2.St} {H : Hp} {ta tb tc : TE} {D : Addr} {f : List (Str × V)} {l : List Nat} {v : V}
theorem rv_win : RV (rWIn D f) (.str (S l)) (.ref D) H (.bl (wdLook f (S l)).isSome) := fun H1 _ _ q => ⟨S l, rfl, rfl, q H1 (Ex.refl H1)⟩
theorem rv_wnin : RV (rWNin D f) (.str (S l)) (.ref D) H (.bl (!(wdLook f (S l)).isSome)) := fun H1 _ _ q => ⟨S l, rfl, rfl, q H1 (Ex.refl H1)⟩
theorem rv_wix (h : wdLook f (S l) = some v) : RV (rIxW D f) (.ref D) (.str (S l)) H v := fun H1 _ _ q => ⟨S l, v, rfl, rfl, h, q H1 (Ex.refl H1)⟩
theorem ev_wget2 (ha : Ev ta σ H (.ref D)) (hb : Ev tb σ H (.str (S l))) (hc : Ev tc σ H v) : Ev (tWGet2 D f ta tb tc) σ H ((wdLook f (S l)).getD v) := fun H1 e Q q =>
  ha H1 e _ fun H2 e2 => ⟨rfl, hb H2 (e.trans e2) _ fun H3 e3 => hc H3 ((e.trans e2).trans e3) _ fun H4 e4 => ⟨S l, rfl, q H4 ((e2.trans e3).trans e4)⟩⟩
end
end Kn
namespace Kn
open PySem PySem.Spec PyProof.Rows L2 Evl SX
theorem num_len {n : Nat} (h : n < 10 ^ 9) : (TL.numL n).length ≤ 9 := by
  unfold TL.numL
  rw [List.length_map]
  exact (Nat.length_toDigits_le_iff (by decide) (by decide)).mpr h
theorem cutS_nat (l : List Nat) (a b : Nat) : cutS (S l) (some (a : Int)) (some (b : Int)) = S ((l.drop a).take (b - a)) := by
  unfold cutS
  rw [HT.sIx_nat, HT.sIx_nat]
  exact congrArg S (cut_nat l a b)
/-! ### lstrip, unpacking, raising passed on -/
def rLstripC : V → List V → Hp → VK → Prop := fun x xs H Q => ∃ a b, x = .str a ∧ xs = [.str b] ∧ a.length ≤ sizeLine ∧ Q (.str (Txt.lstripChars a b)) H
theorem mt_lstripC {X : Cx} : MtR X "str.lstrip" rLstripC := mt_lstripChars
theorem drop_tw (p : Nat → Bool) : ∀ l : List Nat, l.drop (l.takeWhile p).length = l.dropWhile p
  | [] => rfl
  | c :: r => by
    rw [List.takeWhile_cons, List.dropWhile_cons]
    cases h : p c with
    | true =>
      show (c :: r).drop ((r.takeWhile p).length + 1) = r.dropWhile p
      rw [List.drop_succ_cons]
      exact drop_tw p r
    | false => rfl
theorem lstrip_S (l : List Nat) (c : Nat) : Txt.lstripChars (S l) (S [c]) = S (l.dropWhile fun d => decide (d = c)) := by
  unfold Txt.lstripChars
  rw [PySem.W.stripBy_eq]
  refine TL.ext_tl ?_
  have hg : ∀ d, (S [c]).cps.contains d = decide (d = c) := fun d => by
    show (#[c] : Array Nat).contains d = _
    by_cases h : d = c
    · subst h; simp
    · simp [h]
  have e : (fun d => (S [c]).cps.contains d) = fun d => decide (d = c) := funext hg
  show (PySem.W.stripped (fun d => (S [c]).cps.contains d) true false (S l)).cps.toList = _
  rw [e]
  show (PySem.Builtin.Str.strSub (S l) (l.takeWhile fun d => decide (d = c)).length (S l).length).cps.toList = l.dropWhile fun d => decide (d = c)
  rw [S_len]
  have h1 := TL.tl_strSub (x := S l) (i := (l.takeWhile fun d => decide (d = c)).length) (j := l.length)
  refine h1.trans ?_
  show (l.drop _).take (l.length - _) = _
  rw [List.take_of_length_le (by rw [List.length_drop]; exact Nat.le_refl _)]
  exact drop_tw _ l
section
variable {K : PySem.W.Frag} {σ : L2.St} {H H' : Hp} {ta tb te : TE} {v1 v2 v3 : V} {a : Addr} {i j k : Nat} {Q : L2.St → Hp → Prop}
theorem ev_lstrip {l : List Nat} {c : Nat} (ha : Ev ta σ H (.str (S l))) (hb : Ev tb σ H (.str (S [c]))) (hl : l.length ≤ 100000) : Ev (tM1 rLstripC ta tb) σ H (.str (S (l.dropWhile fun d => decide (d = c)))) := fun H1 e Q q =>
  ha H1 e _ fun H2 e2 => ⟨⟨_, rfl⟩, hb H2 (e.trans e2) _ fun H3 e3 => ⟨S l, S [c], rfl, rfl, by rw [S_len]; exact sz_of hl, by rw [lstrip_S]; exact q H3 (e2.trans e3)⟩⟩
theorem unp2 (h : H a = some (.tup [v1, v2])) (q : Q ((σ.set i (some v1)).set j (some v2)) H) : gTup K 2 (gCons (gName i) (gCons (gName j) gNil)) (.ref a) σ H Q :=
  ⟨a, _, rfl, st_of h, rfl, v1, _, rfl, v2, _, rfl, rfl, q⟩
theorem unp3 (h : H a = some (.tup [v1, v2, v3])) (q : Q (((σ.set i (some v1)).set j (some v2)).set k (some v3)) H) : gTup K 3 (gCons (gName i) (gCons (gName j) (gCons (gName k) gNil))) (.ref a) σ H Q :=
  ⟨a, _, rfl, st_of h, rfl, v1, _, rfl, v2, _, rfl, v3, _, rfl, rfl, q⟩
/-- what is raised: an error of the class at C with these four fields -/
def Rz4 (H : Hp) (E : XK) (C : Addr) (p : List Nat) (n c : Nat) (r : List Nat) : Prop := ∀ d H', Ex H H' → H' d = some (.xd (fs4 p n c r)) → E (.ref C) (some d) H'
theorem Rz4.mono {E : XK} {C : Addr} {p r : List Nat} {n c : Nat} (h : Rz4 H E C p n c r) (e : Ex H H') : Rz4 H' E C p n c r := fun d H2 e2 hd => h d H2 (e.trans e2) hd
end
end Kn
namespace Kn
open PySem PySem.Spec PyProof.Rows L2 Evl SX
section
variable {σ : L2.St} {H H' : Hp} {W : WX} {sp : Sp} {tA : TA} {g : TG} {D : Ends} {tz : TS} {vs : List V}
/-- a call that may raise, its answer stored, returned, thrown away -/
theorem s_asgS (hA : EvA tA σ H vs) (k : ∀ H1, Ex H H1 → sp vs H1 (fun v H2 => g v σ H2 D.nx) (WE W σ)) : tAsg (tCallS sp (WE W) tA) g D σ H := hA H (Ex.refl _) _ fun H1 e1 => k H1 e1
theorem q_asgS (hA : EvA tA σ H vs) (k : ∀ H1, Ex H H1 → sp vs H1 (fun v H2 => g v σ H2 (tz D)) (WE W σ)) : tSeq (tAsg (tCallS sp (WE W) tA) g) tz D σ H := s_asgS (D := { D with nx := tz D }) hA k
theorem s_retS (hA : EvA tA σ H vs) (k : ∀ H1, Ex H H1 → sp vs H1 (fun v H2 => D.rt v H2) (WE W σ)) : tRet (tCallS sp (WE W) tA) D σ H := hA H (Ex.refl _) _ fun H1 e1 => k H1 e1
end
end Kn
namespace Kn
open PySem PySem.Spec PyProof.Rows L2 Evl SX
section
variable {K : PySem.W.Frag} {σ : L2.St} {H H' : Hp} {ta te : TE} {D : Ends} {tz : TS} {l : Addr} {xs : List V} {d : PyData}
theorem s_appD (hl : H l = some (.lst xs)) (ha : Ev ta σ H (.ref l)) (h : EvD te σ H d) (hz : xs.length < 100000) (k : ∀ v H1, Ex H H1 → Dt H1 v d → D.nx σ (L2.upd H1 l (.lst (xs ++ [v])))) :
    tDrop (tBM K "list" rAppend ta (tCons te tNil)) D σ H := ha H (Ex.refl H) _ fun H1 e1 =>
  ⟨Or.inl ⟨rfl, xs, sq_of (e1 l _ hl)⟩, h H1 e1 _ fun v H2 e2 hv => ⟨l, xs, v, rfl, rfl, e2 l _ (e1 l _ hl), sz_lt hz, k v H2 (e1.trans e2) hv⟩⟩
theorem q_appD (hl : H l = some (.lst xs)) (ha : Ev ta σ H (.ref l)) (h : EvD te σ H d) (hz : xs.length < 100000) (k : ∀ v H1, Ex H H1 → Dt H1 v d → tz D σ (L2.upd H1 l (.lst (xs ++ [v])))) :
    tSeq (tDrop (tBM K "list" rAppend ta (tCons te tNil))) tz D σ H := s_appD (D := { D with nx := tz D }) hl ha h hz k
theorem dta_app {v : V} {ds : List PyData} (hl : H l = some (.lst xs)) (hD : DtA H xs ds) (hv : Dt H v d) (h1 : noLA ds = true) (h2 : noL d = true) : DtA (L2.upd H l (.lst (xs ++ [v]))) (xs ++ [v]) (ds ++ [d]) :=
  DtA.snoc (hv.upd hl (fun _ z => nomatch z) h2) (hD.upd hl (fun _ z => nomatch z) h1)
theorem noLA_map {α : Type} {f : α → PyData} (h : ∀ x, noL (f x) = true) : ∀ l : List α, noLA (l.map f) = true
  | [] => by unfold noLA; rfl
  | x :: r => by
    rw [List.map_cons]
    unfold noLA
    rw [h x, noLA_map h r]
    rfl
end
end Kn
namespace Kn
open PySem PySem.Spec PyProof.Rows L2 Evl SX
/-! ### a token is out -/
section
variable {X : Cx} {a b c e o : Expr} {rest : List Expr} {ta tb te to : TE} {tc tA tB' : TT} {t u : TS} {sa sb : List Stmt} {pos apos : Pos}
theorem peb_int {i : Int} {j : Nat} : PEb X (.Constant (.int i) j pos) (tC (.int i)) := fun _ s _ H _ I h => wpAny_Constant_int ⟨by show 1 ≤ s.toks + 1; omega, .int i, H, I.tok _, ⟨_, rfl⟩, h⟩
theorem peb_opR {op : Operator} {r : R2} (ho : OpR X (binaryOp op) r) (ha : PE X a ta) (hb : PEb X b tb) : PEb X (.BinOp a op b pos) (tOp r ta tb) := by
  intro pins s σ H Q I h
  refine wpAny_BinOp (thn (ha.run pins s σ H _ I h) fun v s1 ⟨x, H1, I1, r1, q1⟩ => ?_)
  exact thn (hb pins s1 σ H1 _ I1 q1) fun u s2 ⟨h2, y, H2, I2, r2, q2⟩ => keep_tok h2 (ho pins s2 σ H2 x y v u Q I2 r1 r2 q2)
theorem peb_ix {r : R2} (hr : IxR X r) (ha : PE X a ta) (hb : PEb X b tb) (hs : PlainIx b) : PEb X (.Subscript a b pos) (tOp r ta tb) := by
  intro pins s σ H Q I h
  refine Subscript_ (thn (ha.run pins s σ H _ I h) fun v s1 ⟨x, H1, I1, r1, q1⟩ => ?_)
  exact thn (hb pins s1 σ H1 _ I1 q1) fun u s2 ⟨h2, y, H2, I2, r2, q2⟩ => keep_tok h2 (hr a b pins s2 σ H2 x y v u Q I2 r1 r2 q2 (hs _ _))
theorem pe_of_b {te : TE} (h : ∀ (pins : List (Addr × Obj)) (s : Shared) (σ : L2.St) (H : Hp) (Q : VK), Inv X pins σ H s → te σ H Q → wpAny (model X.prog X.w) X.A (eval e X.env) (EP X pins σ Q) X.xe s) : PE X e te := ⟨h⟩
/-- b.replace(..), where b's own text gives a token -/
theorem pe_replB {y z : Str} {j k : Nat} {c0 c1 : Pos} (ho : PEb X o to) (hyz : (y == z) = false := by decide)
    (hst : starEach [.Constant (.str y) j c0, .Constant (.str z) k c1] X.env = [(false, eval (.Constant (.str y) j c0) X.env), (false, eval (.Constant (.str z) k c1) X.env)] := by rfl)
    (hbase : attributeBase o "replace" X.env (eval o X.env) = eval o X.env := by rfl) (hline : (apos.endLine == pos.line) = true := by rfl) :
    PE X (.Call (.Attribute o "replace" apos) [.Constant (.str y) j c0, .Constant (.str z) k c1] [] pos) (CwR.tReplC to y z) := by
  refine ⟨fun pins s σ H Q I h => ?_⟩
  refine PySem.Call_method2 hbase hst hline (thn (ho pins s σ H _ I h) fun v s1 ⟨hk, v', H1, I1, r1, x, e1, hb, q⟩ => ?_)
  subst e1
  obtain ⟨tx, e2⟩ := r1
  subst e2
  refine ⟨"str", _, PySem.F.plainAttrs_str, PySem.F.slot_str_replace, PySem.F.type_str_replace, typeIs_str _ _ _, (fun _ e => nomatch e), Calls.callWith_builtin rfl (Calls.evalArgs_plain (Calls.spliced_cons ?_))⟩
  refine Calls.Constant_str (Calls.spliced_cons (Calls.Constant_str (Calls.spliced_nil ?_)))
  exact PySem.SC.replace (by show s1.toks ≠ 0; omega) (by show s1.toks + 1 ≠ 0; omega) (by show s1.toks ≠ s1.toks + 1; omega) hyz hb fun t' k => ⟨.str (Txt.replace x y z), H1, I1.tok k, ⟨t', rfl⟩, q⟩
def PTT (X : Cx) (c : Expr) (tc : TT) : Prop := ∀ (pins : List (Addr × Obj)) (s : Shared) (σ : L2.St) (H : Hp) (Q : Bool → Hp → Prop), 1 ≤ s.toks → Inv X pins σ H s → tc σ H Q → wpAny (model X.prog X.w) X.A (isTrue c X.env (eval c X.env)) (TP X pins σ Q) X.xe s
def PWT (X : Cx) (c : Expr) (tc : TT) : Prop := ∀ (whole : Sem Value) (pins : List (Addr × Obj)) (s : Shared) (σ : L2.St) (H : Hp) (Q : Bool → Hp → Prop), 1 ≤ s.toks → Inv X pins σ H s → tc σ H Q → wpAny (model X.prog X.w) X.A (isTrue c X.env whole) (TP X pins σ Q) X.xe s
theorem PWT.pt (h : PWT X c tc) : PTT X c tc := h _
theorem pet_ix {r : R2} (hr : IxR X r) (ha : L2.PET X a ta) (hb : PE X b tb) (hs : PlainIx b) : L2.PET X (.Subscript a b pos) (tOp r ta tb) := by
  intro pins s σ H Q h0 I h
  refine Subscript_ (thn (ha pins s σ H _ h0 I h) fun v s1 ⟨x, H1, I1, r1, q1⟩ => ?_)
  exact thn (hb.run pins s1 σ H1 _ I1 q1) fun u s2 ⟨y, H2, I2, r2, q2⟩ => hr a b pins s2 σ H2 x y v u Q I2 r1 r2 q2 (hs _ _)
theorem ptt_cmpR {op : CmpOp} {r : R2} (ho : OpR X (compareOp op) r) (ha : L2.PET X a ta) (hb : PE X b tb) (hm : behindInMarks op b = false) : PTT X (.Compare a [op] [b] pos) (tTest (tOp r ta tb)) := by
  intro pins s σ H Q h0 I h
  refine wpAny_isTrue_Compare1 (thn (ha pins s σ H _ h0 I h) fun v s1 ⟨x, H1, I1, r1, q1⟩ => thn (hb.run pins s1 σ H1 _ I1 q1) fun u s2 ⟨y, H2, I2, r2, q2⟩ =>
    thn (ho pins s2 σ H2 x y v u _ I2 r1 r2 q2) fun c s3 ⟨z, H3, I3, r3, k, e, q3⟩ => ?_) hm
  subst e
  cases r3
  exact wpAny_truthy_bool ⟨H3, I3, q3⟩
theorem ptw_or1 (ha : PTT X a tA) : PWT X (.BoolOp .Or [a] pos) tA := by
  intro wh pins s σ H Q h0 I h
  refine isTrue_or (thn (ha pins s σ H Q h0 I h) fun c s1 e => ?_)
  cases c with
  | false => exact isTrue_or_nil e
  | true => exact e
theorem ptw_or (ha : PTT X a tA) (hb : PWT X (.BoolOp .Or (b :: rest) pos) tB') : PWT X (.BoolOp .Or (a :: b :: rest) pos) (tOr tA tB') := by
  intro wh pins s σ H Q h0 I h
  refine isTrue_or (thn (keep_tok h0 (ha pins s σ H _ h0 I h)) fun c s1 ⟨h1, H1, I1, q1⟩ => ?_)
  cases c with
  | true => exact ⟨H1, I1, q1⟩
  | false => exact hb wh pins s1 σ H1 Q h1 I1 q1
theorem pst_ifT (hc : PTT X c tc) (ha : PSs X sa t) (hb : PSs X sb u) : L2.PST X (.If c sa sb pos) (tIfS tc t u) := by
  intro pins s σ H D h0 I h
  refine wpAny_If (thn (hc pins s σ H _ h0 I h) fun d s1 ⟨H1, I1, q1⟩ => ?_)
  cases d with
  | true => exact ha.run pins s1 σ H1 D I1 q1
  | false => exact hb.run pins s1 σ H1 D I1 q1
theorem psst_nox (h : L2.PSsT X.nox sa t) : L2.PSsT X sa t := fun pins s σ H D h0 I hw =>
  wpAny_mono (h pins s σ H D h0 (I.wish _) hw) (fun _ _ q => q.unwish) fun _ _ z => False.elim z
end
section
variable {P : Program} {w : World} {K : PySem.W.Frag} {mg : Str → Option Value} {base : Heap}
theorem okT {x qual : Str} {st : Stmt} {f : Addr} {fd : FuncData} {N ps : List Str} {k : Nat} {sp : Sp} (F : Fun K x qual st f fd) (S : FnScope N ps (defScope st)) (hnc : ∀ y ∈ (defScope st).names, y.2 ≠ .cell) (hps : 1 ≤ ps.length) (len : ∀ vs H Q E, sp vs H Q E → vs.length = ps.length)
    (hbody : ∀ (cdv : Value) (A : Around) (outer : List Env) (s : Shared) (H : Hp) (vs : List V) (Q : VK) (E : XK), Room k (A.deeper (envOfC qual (defScope st) s.heap.objs.size f cdv)) → sp vs H Q E →
      ∃ t, L2.PSsT (cxOf CX0 P w K mg base N qual (defScope st) f cdv A outer s H E).nox (defBody st) t ∧ t { nx := fun _ H' => Q .non H', rt := Q } (start N vs) H) : FnOk P w K mg base CX0 (k + 1) f fd ps sp := by
  obtain ⟨oc, od, kV, doc, pm, an, cdv, ct, osl, rfl, lk, hcd⟩ := F.ex
  refine fn_ofT lk hcd S hnc hps len fun A outer s H vs Q E hr hsp => ?_
  obtain ⟨t, h, q⟩ := hbody cdv A outer s H vs Q E hr hsp
  exact ⟨t, psst_nox h, q⟩
end
section
/-- a sign of a text put for others -/
def sub1 (c : Nat) (z l : List Nat) : List Nat := l.flatMap fun e => if e = c then z else [e]
theorem repl_any {c : Nat} {z : List Nat} : ∀ l : List Nat, StrLaws.replL [c] z l = sub1 c z l
  | [] => StrLaws.replL_nil
  | e :: r => by
    by_cases h : e = c
    · subst h
      rw [StrLaws.replL_hit (List.cons_ne_nil _ _) rfl, show (e :: r).drop [e].length = r from rfl, repl_any r]
      unfold sub1
      rw [List.flatMap_cons, if_pos rfl]
    · rw [StrLaws.replL_miss (y := [c]) (show ¬ (e :: r).take [c].length = [c] from fun z => h (List.cons.inj (show e :: r.take 0 = [c] from z)).1), repl_any r]
      unfold sub1
      rw [List.flatMap_cons, if_neg h]
      rfl
theorem replace_A {l z : List Nat} {c : Nat} : Txt.replace (S l) (S [c]) (S z) = S (sub1 c z l) := by
  refine TL.ext_tl ?_
  show (Txt.replace (S l) (S [c]) (S z)).cps.toList = _
  exact (StrLaws.replace_list (show 1 ≤ (S [c]).length from Nat.le_refl 1)).trans (repl_any l)
theorem ev_replA {σ : L2.St} {H : Hp} {ta : TE} {l z : List Nat} {s1 s2 : Str} {c : Nat} (ha : Ev ta σ H (.str (S l))) (h1 : s1 = S [c]) (h2 : s2 = S z) (hl : l.length ≤ 100000) (hz : z.length ≤ 8) : Ev (CwR.tReplC ta s1 s2) σ H (.str (S (sub1 c z l))) := fun H1 e Q q => by
  subst h1 h2
  refine ha H1 e _ fun H2 e2 => ⟨S l, rfl, ?_, ?_⟩
  · rw [S_len, S_len]
    have : (l.length + 1) * z.length ≤ 100001 * 8 := Nat.mul_le_mul (by omega) hz
    omega
  · rw [replace_A]
    exact q H2 e2
end
end Kn
namespace Kn
open PySem PySem.Spec PyProof.Rows L2 Evl SX
section
variable {X : Cx} {e : Expr} {te : TE} {pos : Pos}
/-- name = value, where the value wants a token -/
theorem pst_set {i : Nat} {x : Str} {pos' : Pos} (hN : X.N.Nodup) (hi : X.N[i]? = some x) (hx : Loc X.env.scope x) (he : L2.PET X e te) (hs : swapsWith e (some (.Name x pos')) pos.line X.env = pure false := by rfl) (hf : X.fn x = true ∨ X.env.scope.names.lookup x = some .local := by first | exact .inl rfl | exact .inr rfl | assumption) :
    L2.PST X (.Assign [.Name x pos'] e pos) (tAsg te (gName i)) := by
  intro pins s σ H D h0 I h
  refine wpAny_Assign_Name (thn (he pins s σ H _ h0 I h) fun v s1 ⟨y, H1, I1, r1, q1⟩ => ?_) hs
  exact store_ok I1 hN hi hx r1 (fun s2 I2 => ⟨_, H1, I2, q1⟩) hf
end
section
variable {σ : L2.St} {H : Hp} {W : WX} {sp : Sp} {tA : TA} {vs : List V} {d : PyData}
theorem q_dropS {D : Ends} {tz : TS} (hA : EvA tA σ H vs) (k : ∀ H1, Ex H H1 → sp vs H1 (fun _ H2 => tz D σ H2) (WE W σ)) : tSeq (tDrop (tCallS sp (WE W) tA)) tz D σ H := hA H (Ex.refl H) _ fun H1 e1 => k H1 e1
theorem s_dropS {D : Ends} (hA : EvA tA σ H vs) (k : ∀ H1, Ex H H1 → sp vs H1 (fun _ H2 => D.nx σ H2) (WE W σ)) : tDrop (tCallS sp (WE W) tA) D σ H := hA H (Ex.refl H) _ fun H1 e1 => k H1 e1
/-- a call that may raise and does not -/
theorem evd_callS (hA : EvA tA σ H vs) (k : ∀ H1, Ex H H1 → ∀ Q : VK, RtD H1 d Q → sp vs H1 Q (WE W σ)) : EvD (tCallS sp (WE W) tA) σ H d := fun H1 e Q q =>
  hA H1 e _ fun H2 e2 => k H2 (e.trans e2) _ fun v H3 e3 hv => q v H3 (e2.trans e3) hv
end
end Kn
namespace Kn
open PySem PySem.Spec PyProof.Rows L2 Evl SX
section
variable {K : PySem.W.Frag} {σ : L2.St} {H H' H1 : Hp} {te t1 t2 : TE}
/-- column, reason -/
def fs2 (c : Nat) (r : List Nat) : List (Str × V) := [("reason", .str (S r)), ("column", .int (c : Int))]
structure Nf2 (K : PySem.W.Frag) (C : Addr) : Prop where
  c : PySem.W.findIn K (.ref C) "column" = some none
  r : PySem.W.findIn K (.ref C) "reason" = some none
def Sm2 (c : Nat) (r : List Nat) : Prop := r.length ≤ 9000 ∧ c < 10 ^ 9
def sp_I2 (K : PySem.W.Frag) : Sp := fun vs H Q _ => ∃ (a C : Addr) (c : Nat) (r : List Nat), vs = [.ref a, .int (c : Int), .str (S r)] ∧ Sm2 c r ∧ H a = some (exo a C none) ∧ OexC K C ∧ Nf2 K C ∧
  ∀ dx H', H dx = none → dx ≠ a → XMade H H' a C dx (fs2 c r) → Q .non H'
theorem raise2 {W : WX} {C : Addr} {r : List Nat} {c : Nat} (oe : OexC K C) (nf : Nf2 K C) (hl : Sm2 c r) (h1 : Ev t1 σ H (.int (c : Int))) (h2 : Ev t2 σ H (.str (S r)))
    (hk : ∀ d H', Ex H H' → H' d = some (.xd (fs2 c r)) → W (.ref C) (some d) σ H') : tMkO C (sp_I2 K) [] (tCons t1 (tCons t2 tNil)) σ H (fun cls d H' => W cls d σ H') :=
  ea_cons h1 (ea_cons h2 ea_nil) H (Ex.refl _) _ fun H2 e2 => ⟨(by show 2 ≤ 1000; decide), fun a na => ⟨a, C, c, r, rfl, hl, upd_same, oe, nf, fun dx H' hdx ne m =>
    ⟨rfl, dx, _, m.1, m.2.1, upd_none hdx, xm_raise e2 na (upd_none hdx) m hk⟩⟩⟩
theorem init2_body {D : Ends} {a C : Addr} {r m : List Nat} {c : Nat} {tj : TE} {σ0 : L2.St} (hσ : σ0 = [some (.ref a), some (.int (c : Int)), some (.str (S r))]) (hj : Ev tj σ0 H (.str (S m))) (ha : H a = some (exo a C none)) (oe : OexC K C) (nf : Nf2 K C)
    (q : ∀ dx H', H dx = none → dx ≠ a → XMade H H' a C dx (fs2 c r) → D.nx σ0 H') : tSeq (tDrop (tVeI K (tCons (tVar 0) (tCons tj tNil)))) (tSeq (tOst K "column" (tVar 0) (tVar 1)) (tOst K "reason" (tVar 0) (tVar 2))) D σ0 H := by
  subst hσ
  refine q_beinit (ev_var rfl) hj oe ha fun H1 e1 => ?_
  refine ⟨_, rfl, _, rfl, a, C, rfl, oe, nf.c, .inl ⟨e1 _ _ ha, fun dx hd ne => ?_⟩⟩
  have m1 := xmade_new (C := C) (f := "column") (v := .int (c : Int)) e1 ne
  refine ⟨_, rfl, _, rfl, a, C, rfl, oe, nf.r, .inr ⟨dx, _, m1.1, m1.2.1, (by show 1 ≤ 900; decide), ?_⟩⟩
  exact q dx _ (fresh_back e1 hd) ne (m1.more (f := "reason") (v := .str (S r)) ne (Ex.refl _))
def Rz2 (H : Hp) (E : XK) (C : Addr) (c : Nat) (r : List Nat) : Prop := ∀ d H', Ex H H' → H' d = some (.xd (fs2 c r)) → E (.ref C) (some d) H'
theorem Rz2.mono {E : XK} {C : Addr} {r : List Nat} {c : Nat} (h : Rz2 H E C c r) (e : Ex H H') : Rz2 H' E C c r := fun d H2 e2 hd => h d H2 (e.trans e2) hd
theorem evd_tupOf {ta : TE} {p : Addr} {vs : List V} {ds : List PyData} (h : Ev ta σ H (.ref p)) (hp : H p = some (.lst vs)) (hd : DtA H vs ds) :
    EvD (tCB (fun xs H Q => ∃ p ys, xs = [.ref p] ∧ ((SqL K H p ys ∧ ∀ l, H l = none → Q (.ref l) (upd H l (.tup ys))) ∨ (SqT K H p ys ∧ Q (.ref p) H))) (tCons ta tNil)) σ H (.tuple ds) := fun H1 e Q q =>
  h H1 e _ fun H2 e2 => ⟨p, vs, rfl, .inl ⟨sq_of ((e.trans e2) _ _ hp), fun l hl => q _ _ (e2.trans (Ex.new hl)) (.tup upd_same ((hd.mono (e.trans e2)).mono (Ex.new hl)))⟩⟩
end
end Kn
/-! ### dead statements, defs with defaults, errors with one field of any kind, dicts with int keys -/
namespace Kn
open PySem PySem.Spec PyProof.Rows L2 Evl SX
theorem ps_dead {X : Cx} {st : Stmt} : PS X st (fun _ _ _ => False) := ⟨fun _ _ _ _ _ _ h => h.elim⟩
def rSortDI (K : PySem.W.Frag) : List V → Hp → VK → Prop := fun xs H Q => ∃ (a : Addr) (kvs : List (Key × V)) (ks : List Int), xs = [.ref a] ∧ Rd H a (.dK kvs) ∧ kvs.map (·.1) = ks.map Sum.inl ∧ ks.length < 64 ∧ ∀ (ys : List Int) (p : Addr), ys.Perm ks → ys.Pairwise (· ≤ ·) → H p = none → Q (.ref p) (upd H p (.lst (ys.map V.int)))
theorem cr_sortDI {X : Cx} (h : X.calm = true) : CallR X (.builtin "sorted") (rSortDI X.K) := call_sortedDI h
theorem cr_max2 {X : Cx} (h : X.calm = true) : CallR X (.builtin "max") Evl.rMax2 := call_max2 h
def rMn2 : List V → Hp → VK → Prop := fun xs H Q => ∃ i j : Int, xs = [.int i, .int j] ∧ Q (.int (if j < i then j else i)) H
theorem cr_min2 {X : Cx} (h : X.calm = true) : CallR X (.builtin "min") rMn2 := call_min2 h
/-- a class made by its name with its defaults -/
structure MkrD (P : Program) (w : World) (K : PySem.W.Frag) (mg : Str → Option Value) (base : Heap) (k : Nat) (x : Str) (C : Addr) (sp : Sp) (dvs : List V) : Prop where
  ex : ∃ (f : Addr) (fd : FuncData) (ps : List Str) (ds : List Value), Mk K C f ∧ FnOk P w K mg base CX0 k f fd ps sp ∧ mg x = some (.ref C) ∧ Binds K fd ps ds ∧ Vals dvs ds
theorem pe_mkrD0 {X : Cx} {k j : Nat} {C : Addr} {x : Str} {sp : Sp} {dvs : List V} {p pos : Pos} (c : MkrD X.prog X.w X.K X.mg X.base k x C sp dvs) (hr : Room j X.A) (hk : k + 1 ≤ j) (hg : Gl X x) (hdb : (x == ("__debug__" : Str)) = false := by decide) :
    PE X (.Call (.Name x p) [] [] pos) (tMake C sp dvs E0 tNil) := by
  obtain ⟨f, fd, ps, ds, M, F, hm, b, d⟩ := c.ex
  exact pe_make0 M F (hr.mono hk) hg hm b d pass0 hdb
theorem dfl_one {K : PySem.W.Frag} {T : Addr} {c : Value} {od : Option Addr} {n : Nat} {sl : Array (Option Value)} {u : Value} {v : V} (h : K.lookup T = some ⟨c, od, .seq #[u] n, sl⟩) (r : RelV v u) : DflV K (.ref T) [v] :=
  .inr ⟨by simp, T, _, [u], n, rfl, h, rfl, .cons r .nil⟩
section
variable {K : PySem.W.Frag} {σ : L2.St} {H H1 H' : Hp} {ta tb td ty te tv : TE} {D : Ends} {tz : TS} {a d C : Addr} {kvs : List (Key × V)} {k : Int} {v : V} {f : Str}
def sp_I1v (f : Str) (K : PySem.W.Frag) : Sp := fun vs H Q _ => ∃ (a C : Addr) (v : V), vs = [.ref a, v] ∧ H a = some (exo a C none) ∧ OexC K C ∧ PySem.W.findIn K (.ref C) f = some none ∧
  ∀ dx H', H dx = none → dx ≠ a → XMade H H' a C dx [(f, v)] → Q .non H'
theorem raise1v {W : WX} (oe : OexC K C) (nf : PySem.W.findIn K (.ref C) f = some none) (hv : Ev te σ H v)
    (hk : ∀ d H', Ex H H' → H' d = some (.xd [(f, v)]) → W (.ref C) (some d) σ H') : tMkO C (sp_I1v f K) [] (tCons te tNil) σ H (fun cls d H' => W cls d σ H') :=
  hv H (Ex.refl _) _ fun H2 e2 => ⟨(by show 1 ≤ 1000; decide), fun a na => ⟨a, C, v, rfl, upd_same, oe, nf, fun dx H' hdx ne m =>
    ⟨rfl, dx, _, m.1, m.2.1, upd_none hdx, xm_raise e2 na (upd_none hdx) m hk⟩⟩⟩
theorem init1v_body {m : List Nat} {tj : TE} (hj : Ev tj [some (.ref a), some v] H (.str (S m))) (ha : H a = some (exo a C none)) (oe : OexC K C) (nf : PySem.W.findIn K (.ref C) f = some none)
    (q : ∀ dx H', H dx = none → dx ≠ a → XMade H H' a C dx [(f, v)] → D.nx [some (.ref a), some v] H') : tSeq (tDrop (tVeI K (tCons (tVar 0) (tCons tj tNil)))) (tOst K f (tVar 0) (tVar 1)) D [some (.ref a), some v] H := by
  refine q_beinit (ev_var rfl) hj oe ha fun H1 e1 => ?_
  exact ⟨_, rfl, _, rfl, a, C, rfl, oe, nf, .inl ⟨e1 _ _ ha, fun dx hd ne => q dx _ (fresh_back e1 hd) ne (xmade_new e1 ne)⟩⟩
/-- raised: a new error with one field -/
def Rzv (H : Hp) (E : XK) (C : Addr) (f : Str) (v : V) : Prop := ∀ d H', Ex H H' → H' d = some (.xd [(f, v)]) → E (.ref C) (some d) H'
theorem Rzv.mono {E : XK} (h : Rzv H E C f v) (e : Ex H H') : Rzv H' E C f v := fun d H2 e2 hd => h d H2 (e.trans e2) hd
theorem ev_dgetI (h1 : Ev td σ H (.ref d)) (h2 : Ev ty σ H (.int k)) (hd : H d = some (.dK kvs)) (hv : valV kvs (Sum.inl k) = some v) : Ev (tDGet td ty) σ H v := fun H1 e Q q =>
  h1 H1 e _ fun H2 e2 => h2 H2 (e.trans e2) _ fun H3 e3 => ⟨d, v, rfl, by
    have g := DGet.k (k := (Sum.inl k : Key)) (((e.trans e2).trans e3) _ _ hd)
    rw [hv] at g
    exact g, q H3 (e2.trans e3)⟩
theorem ev_dinI (h2 : Ev ty σ H (.int k)) (h1 : Ev td σ H (.ref d)) (hd : H d = some (.dK kvs)) : Ev (tDIn ty td) σ H (.bl (valV kvs (Sum.inl k)).isSome) := fun H1 e Q q =>
  h2 H1 e _ fun H2 e2 => h1 H2 (e.trans e2) _ fun H3 e3 => ⟨d, _, rfl, DGet.k (k := (Sum.inl k : Key)) (((e.trans e2).trans e3) _ _ hd), q H3 (e2.trans e3)⟩
theorem ev_dninI (h2 : Ev ty σ H (.int k)) (h1 : Ev td σ H (.ref d)) (hd : H d = some (.dK kvs)) : Ev (tDNotIn ty td) σ H (.bl (!(valV kvs (Sum.inl k)).isSome)) := fun H1 e Q q =>
  h2 H1 e _ fun H2 e2 => h1 H2 (e.trans e2) _ fun H3 e3 => ⟨d, _, rfl, DGet.k (k := (Sum.inl k : Key)) (((e.trans e2).trans e3) _ _ hd), q H3 (e2.trans e3)⟩
theorem s_dputI (hv : Ev tv σ H v) (h1 : ∀ H1, Ex H H1 → Ev td σ H1 (.ref d)) (h2 : ∀ H1, Ex H H1 → Ev ty σ H1 (.int k)) (hd : H d = some (.dK kvs)) (hl : kvs.length < 100000) (q : ∀ H1, Ex H H1 → D.nx σ (L2.upd H1 d (.dK (putK kvs (Sum.inl k) v)))) : sDPut td ty tv D σ H :=
  hv H (Ex.refl H) _ fun H1 e1 => h1 H1 e1 H1 (Ex.refl H1) _ fun H2 e2 => h2 H2 (e1.trans e2) H2 (Ex.refl H2) _ fun H3 e3 => ⟨d, _, rfl, DPut.k (k := (Sum.inl k : Key)) (((e1.trans e2).trans e3) _ _ hd) (sz_lt hl), q H3 ((e1.trans e2).trans e3)⟩
theorem q_dputI (hv : Ev tv σ H v) (h1 : ∀ H1, Ex H H1 → Ev td σ H1 (.ref d)) (h2 : ∀ H1, Ex H H1 → Ev ty σ H1 (.int k)) (hd : H d = some (.dK kvs)) (hl : kvs.length < 100000) (q : ∀ H1, Ex H H1 → tz D σ (L2.upd H1 d (.dK (putK kvs (Sum.inl k) v)))) : tSeq (sDPut td ty tv) tz D σ H :=
  s_dputI (D := { D with nx := tz D }) hv h1 h2 hd hl q
theorem s_ddelI (h1 : Ev td σ H (.ref d)) (h2 : ∀ H1, Ex H H1 → Ev ty σ H1 (.int k)) (hd : H d = some (.dK kvs)) (hs : (valV kvs (Sum.inl k)).isSome = true) (q : ∀ H1, Ex H H1 → D.nx σ (L2.upd H1 d (.dK (dropK kvs (Sum.inl k))))) : sDDel td ty D σ H :=
  h1 H (Ex.refl H) _ fun H2 e2 => h2 H2 e2 H2 (Ex.refl H2) _ fun H3 e3 => ⟨d, kvs, Sum.inl k, rfl, (e2.trans e3) _ _ hd, rfl, hs, q H3 (e2.trans e3)⟩
theorem s_dpopI (h1 : Ev td σ H (.ref d)) (h2 : ∀ H1, Ex H H1 → Ev ty σ H1 (.int k)) (hd : H d = some (.dK kvs)) (hs : valV kvs (Sum.inl k) = some v) (q : ∀ H1, Ex H H1 → D.nx σ (L2.upd H1 d (.dK (dropK kvs (Sum.inl k))))) : tDrop (tDPop1 td ty) D σ H :=
  h1 H (Ex.refl H) _ fun H2 e2 => ⟨d, rfl, .inl ⟨kvs, .inl (e2 _ _ hd)⟩, h2 H2 e2 H2 (Ex.refl H2) _ fun H3 e3 => ⟨kvs, Sum.inl k, v, (e2.trans e3) _ _ hd, rfl, hs, q H3 (e2.trans e3)⟩⟩
end
theorem dta_ints {H : Hp} : ∀ ks : List Int, DtA H (ks.map V.int) (ks.map .int)
  | [] => .nil
  | k :: r => .cons (.int k) (dta_ints r)
theorem canL_ints : ∀ ks : List Int, PyData.canLayAll0 (ks.map .int) = true
  | [] => rfl
  | k :: r => can_cons (by simp [PyData.canLay0]) (canL_ints r)
theorem depth_ints : ∀ ks : List Int, PyData.depthAll (ks.map .int) = 0
  | [] => rfl
  | k :: r => by
    show max 0 (PyData.depthAll (r.map .int)) = 0
    rw [depth_ints r]
    rfl
theorem shaped_ints (ks : List Int) : SeqAt.shaped (.list (ks.map .int)) = true := by
  show (PyData.canLayAll0 (ks.map .int) && decide (PyData.depthAll (ks.map .int) + 1 ≤ 64)) = true
  rw [canL_ints ks, depth_ints]
  rfl
theorem ints_uniq {l m : List Int} (h1 : l.Pairwise (· ≤ ·)) (h2 : m.Pairwise (· ≤ ·)) (p : l.Perm m) : l = m :=
  List.Perm.eq_of_pairwise (fun _ _ _ _ a b => Int.le_antisymm a b) h1 h2 p
theorem cutV_some {τ : Type} {g : τ → V} (ns : List τ) (lo hi : Option Int) : ∃ ms : List τ, cutV (ns.map g) lo hi = ms.map g ∧ (∀ x ∈ ms, x ∈ ns) ∧ ms.length ≤ ns.length := by
  unfold cutV
  rw [List.length_map]
  refine ⟨(ns.drop (HT.sIx ns.length 0 lo)).take (HT.sIx ns.length ns.length hi - HT.sIx ns.length 0 lo), by rw [List.map_take, List.map_drop], fun x hx => List.mem_of_mem_drop (List.mem_of_mem_take hx), ?_⟩
  rw [List.length_take, List.length_drop]
  omega
section
variable {K : PySem.W.Frag} {σ : L2.St} {H H1 H' : Hp} {ta tb td ty te tv : TE} {a d C B dd : Addr} {kvs : List (Key × V)} {k : Int} {v : V} {f : Str} {fs : List (Str × V)} {i : Nat}
/-- a field of the error in hand -/
theorem ev_xf (hσ : σ[i]? = some (some (.ref a))) (hd : H dd = some (.xd fs)) (hl : fs.lookup f = some v) : Ev (tXf a (.ref C) (some dd) C f (tVar i)) σ H v := fun H1 e Q q =>
  ⟨_, hσ, rfl, rfl, dd, fs, v, rfl, e _ _ hd, hl, q H1 (Ex.refl _)⟩
theorem ev_isX (X : Xc K C B) (hσ : σ[i]? = some (some (.ref a))) (hd : H dd = some (.xd fs)) : Ev (tCB (rIsX K a (.ref C) (some dd)) (tCons (tVar i) (tCons (tC (.ref B)) tNil))) σ H (.bl true) := fun H1 e Q q =>
  ⟨_, hσ, C, dd, fs, .ref B, _, true, rfl, rfl, X.xc, e _ _ hd, rfl, fun u h => h, X.kB, q H1 (Ex.refl _)⟩
theorem evd_sortDI {ks ys : List Int} (hb : Ev tb σ H (.ref a)) (ha : H a = some (.dK kvs)) (hk : kvs.map (·.1) = ks.map Sum.inl) (hn : ks.length < 64) (hp : ys.Perm ks) (hs : ys.Pairwise (· ≤ ·)) : EvD (tCB (rSortDI K) (tCons tb tNil)) σ H (.list (ys.map .int)) := fun H1 e Q q =>
  hb H1 e _ fun H2 e2 => ⟨a, kvs, ks, rfl, .inl ((e.trans e2) _ _ ha), hk, hn, fun zs p hz hsz hnp => by
    have := ints_uniq hsz hs (hz.trans hp.symm)
    subst this
    exact q _ _ (e2.trans (Ex.new hnp)) (.lst upd_same (dta_ints _))⟩
theorem rv_neBB {b : Bool} : RV rNe (.bl b) (.bl b) H (.bl false) := fun H1 _ _ q => ⟨rfl, by
  have e : decide (V.bl b = V.bl b) = true := by simp
  rw [e]
  exact q H1 (Ex.refl H1)⟩
end
section
variable {K : PySem.W.Frag} {σ : L2.St} {H : Hp} {ta tb : TE}
theorem ev_mn2 {i j : Int} (ha : Ev ta σ H (.int i)) (hb : Ev tb σ H (.int j)) : Ev (tCB rMn2 (tCons ta (tCons tb tNil))) σ H (.int (if j < i then j else i)) := fun H1 e Q q =>
  ha H1 e _ fun H2 e2 => hb H2 (e.trans e2) _ fun H3 e3 => ⟨i, j, rfl, q H3 (e2.trans e3)⟩
theorem ev_ixLit {xs : List V} {v : V} {i : Nat} {j : Int} (ha : EvL ta σ H xs) (hb : Ev tb σ H (.int j)) (hj : j = (i : Int)) (h : xs[i]? = some v) : Ev (tOp (rIxL K) ta tb) σ H v := fun H1 e Q q =>
  ha H1 e _ fun p H2 np e2 hp => hb H2 (e.trans e2) _ fun H3 e3 => ⟨p, xs, j, v, rfl, rfl, sq_of (e3 _ _ hp), atI_nat' hj h, q H3 (e2.trans e3)⟩
end
section
variable {σ : L2.St} {H : Hp} {tA : TA} {sp : Sp} {E : XK} {vs : List V} {D : Ends} {tz tu tw : TS} {g : TG} {tc : TT} {b0 : Bool}
theorem q_asgC (hA : EvA tA σ H vs) (k : ∀ H1, Ex H H1 → sp vs H1 (fun v H2 => g v σ H2 (tz D)) E) : tSeq (tAsg (tCall sp [] E tA) g) tz D σ H := hA H (Ex.refl H) _ fun H1 e1 => by
  rw [List.append_nil]
  exact k H1 e1
/-- if not f(..): where the call may change the heap -/
theorem q_whenNC (hA : EvA tA σ H vs) (k : ∀ H1, Ex H H1 → sp vs H1 (fun v H2 => ∃ b, v = .bl b ∧ if (!b) = true then tu { D with nx := tz D } σ H2 else tw { D with nx := tz D } σ H2) E) : tSeq (tIfS (tNot (tB (tCall sp [] E tA))) tu tw) tz D σ H := hA H (Ex.refl H) _ fun H1 e1 => by
  rw [List.append_nil]
  exact k H1 e1
theorem q_whenAC (hc : EvT tc σ H b0) (hA : ∀ H1, Ex H H1 → EvA tA σ H1 vs) (k0 : b0 = false → ∀ H1, Ex H H1 → tw { D with nx := tz D } σ H1)
    (k : b0 = true → ∀ H1, Ex H H1 → sp vs H1 (fun v H2 => ∃ b, v = .bl b ∧ if (!b) = true then tu { D with nx := tz D } σ H2 else tw { D with nx := tz D } σ H2) E) : tSeq (tIfS (tAnd tc (tNot (tB (tCall sp [] E tA)))) tu tw) tz D σ H := hc H (Ex.refl H) _ fun H1 e1 => by
  cases b0 with
  | false => exact k0 rfl H1 e1
  | true =>
    refine hA H1 e1 H1 (Ex.refl H1) _ fun H2 e2 => ?_
    rw [List.append_nil]
    exact k rfl H2 (e1.trans e2)
end
end Kn

/-! ### set(xs) and len(set(xs)) of different texts -/
namespace Kn.Sets
open PySem PySem.Spec PyProof.Rows
section
variable {prog : Program} {w : World} {A : Around}
/-- the texts that are in, behind i turns -/
def seen (xs : List Str) (i : Nat) : Str → Bool := fun z => (xs.take i).any (· == z)
theorem seen_next {xs : List Str} {i : Nat} {x : Str} (h : xs[i]? = some x) (z : Str) : (seen xs i z || decide (z = x)) = seen xs (i + 1) z := by
  unfold seen
  rw [List.take_add_one, h, List.any_append]
  congr 1
  show _ = ((x == z) || false)
  rw [Bool.or_false]
  by_cases e : z = x
  · rw [decide_eq_true e, e, beq_self_eq_true]
  · rw [decide_eq_false e]
    exact (beq_eq_false_iff_ne.mpr fun y => e y.symm).symm
theorem seen_not {xs : List Str} {i : Nat} {x : Str} (nd : xs.Nodup) (h : xs[i]? = some x) : seen xs i x = false := by
  unfold seen
  rw [List.any_eq_false]
  intro y hy
  obtain ⟨j, hj⟩ := List.mem_iff_getElem?.mp hy
  rw [List.getElem?_take] at hj
  split at hj
  · next hji =>
    intro e
    have e2 : y = x := by simpa using e
    have h1 := (List.getElem?_eq_some_iff.mp h).1
    have h2 := (List.getElem?_eq_some_iff.mp hj).1
    have := (List.getElem?_inj (j := j) h1 nd).mp (h.trans (by rw [hj, e2]))
    omega
  · cases hj
/-- one turn after another -/
theorem turns {I S : Addr} {fp wr : List Addr} {G : Array GenState → Array GenState → Prop} {n : Nat} {Pi : Nat → Value → Prop} {St : Nat → Shared → Prop} {R : Result → Shared → Prop} (W : WalksS prog w A.in1 I fp wr G n Pi St) (hS : S ∉ fp)
    {xs : List Str} (hn : xs.length = n) (few : n + 1 < scanBound) (nd : xs.Nodup) (at' : ∀ i v, Pi i v → ∃ x t, xs[i]? = some x ∧ v = .str x t) (d : Nat) :
    ∀ (i : Nat) (s : Shared), i + d = n → St i s → s.heap.SetOf (PySem.strKind prog w) S (seen xs i) i →
      (∀ s', Moved (S :: wr) G s s' → s'.heap.SetOf (PySem.strKind prog w) S (seen xs n) n → R (.ok (.ret .none)) s') → codeAny (model prog w) A (.builtin "set.update.loop" ⟨[.ref S, .ref I], []⟩) R s := by
  have out : S ∉ wr := fun z => hS (W.sub _ z)
  have more : ∀ b ∈ wr, b ∈ S :: wr := fun b z => List.mem_cons_of_mem _ z
  have kept : ∀ {s s' : Shared} {f : Str → Bool} {m : Nat}, Moved wr G s s' → s.heap.SetOf (PySem.strKind prog w) S f m → s'.heap.SetOf (PySem.strKind prog w) S f m := fun hm ⟨o, es, ep, tb, ho, r⟩ => ⟨o, es, ep, tb, hm.heap S _ out ho, r⟩
  induction d with
  | zero =>
    intro i s e st so k
    obtain rfl : i = n := e
    refine codeAny_builtin F.entry_set_update_loop ?_
    rw [Around.under_plainId F.plain_set_update_loop _]
    exact wpAny_bind (W.done s _ _ st fun s' hm => wpAny_pure (k s' (hm.mono more) (kept hm so)))
  | succ d ih =>
    intro i s e st so k
    have lt : i < n := by omega
    refine codeAny_builtin F.entry_set_update_loop ?_
    rw [Around.under_plainId F.plain_set_update_loop _]
    refine wpAny_bind (W.item i s _ _ lt st fun v s' hP st' hm => ?_)
    obtain ⟨x, t, hx, rfl⟩ := at' i v hP
    have so1 := kept hm so
    refine wpAny_bind (m := holding [Value.str x t] (setAdd S (.str x t))) (wpAny_holding ?_)
    unfold setAdd
    refine wpAny_holding (wpAny_bind ((PySem.strKind prog w).pyHash (k := x) (strKind_is _ _ _ _) ?_))
    refine wpAny_setAddHashed_of (knd := PySem.strKind prog w) (s := { s' with toks := s'.toks + 1 }) (strKind_is _ _ _ _) rfl so1 (by omega) fun h' same so2 => ?_
    rw [if_neg (by rw [seen_not nd hx]; decide)] at so2
    have so3 := SetOf_congr so2 (seen_next hx) rfl
    refine wpAny_pure ⟨plainId_quiet F.plain_set_update_loop _, ih (i + 1) _ (by omega) (W.frame _ s' _ _ st' (Nat.le_succ _) fun b hb o e => ?_) so3 fun s2 hm2 so4 => ?_⟩
    · rw [same.2 b fun z => hS (z ▸ hb)]
      exact e
    · refine k s2 (Moved.trans W.gtrans ((hm.mono more).then_heap (Nat.le_succ _) fun b o hb e => ?_) hm2) so4
      rw [same.2 b fun z => hb (z ▸ List.mem_cons_self)]
      exact e
end
/-- a new set, empty -/
def newS (led : Bool) : Obj := { cls := .type "set", dict := none, data := .set #[] 0 (.fresh 0 0 led) }
/-- a walk's iterator over the list at l -/
def itS (l : Addr) : Obj := { cls := .type "list_iterator", data := .fields #[.ref l, .int 0 0] }
/-- the texts are in the set at the end of h; h' keeps what was in h -/
def Full (prog : Program) (w : World) (h : Heap) (xs : List Str) (h' : Heap) : Prop := h'.SetOf (PySem.strKind prog w) h.objs.size (seen xs xs.length) xs.length ∧ ∀ b o, b < h.objs.size → h.get? b = some o → h'.get? b = some o
section
variable {prog : Program} {w : World} {A : Around} {E : Value → Shared → Prop} {s : Shared}
theorem make {l : Addr} {items : Array Value} {xs : List Str} {Q : Value → Shared → Prop} (hh : A.handled = none) (hl : s.heap.IsList l items) (at' : ∀ (i : Nat) (v : Value), items[i]? = some v → ∃ (x : Str) (t : Tok), xs[i]? = some x ∧ v = .str x t) (hn : xs.length = items.size) (nd : xs.Nodup) (few : items.size + 1 < scanBound)
    (q : ∀ (h' : Heap) (tk : Nat), Full prog w s.heap xs h' → Q (.ref s.heap.objs.size) { s with heap := h', toks := tk }) : wpAny (model prog w) A (call (.type "set") [.ref l]) Q E s := by
  have z1 := PySem.F.called_set.made
  have z2 := PySem.F.called_set.sub
  have z3 := PySem.F.called_set.notType
  have z4 := PySem.F.called_set.canCreate
  have z5 := PySem.F.typeCall_set_1 (.ref l)
  have ⟨_, _, z6⟩ := PySem.F.called_set.mro
  refine wpAny_call (codeAny_of_tree (show wpAny _ _ (callAny (.type "set") _) _ _ _ from wpAny_pure ⟨Code.quiet_builtin _ (by decide +kernel), codeAny_builtin PySem.F.entry_type_call ?_⟩))
  rw [Around.under_plain (weight_type_call_type "set" [.ref l] []) rfl]
  repeat (any_goals (first | assumption | wp_step))
  refine codeAny_mono (code_set_new_1 (.ref l) (E := E) (Q₁ := fun v s1 => ∃ led, v = .ref s.heap.objs.size ∧ s1 = { s with heap := s.heap.push (newS led) }) fun led => ⟨led, rfl, rfl⟩) fun r s1 hr => ?_
  match r, hr with
  | .error e, hr => exact hr
  | .ok (.ret v), hr =>
    obtain ⟨led, rfl, rfl⟩ := hr
    have new : (s.heap.push (newS led)).get? s.heap.objs.size = some (newS led) := Heap.get?_push_size _ rfl
    have isS : Shared.TypeIs { s with heap := s.heap.push (newS led) } (.ref s.heap.objs.size) "set" := ⟨_, new, rfl⟩
    have z7 := PySem.F.called_set.init.lookup
    have z8 := PySem.F.called_set.init.bind (.ref s.heap.objs.size)
    repeat (any_goals (first | assumption | wp_step))
    refine codeAny_mono (codeAny_call_builtin (R := wants (fun r s2 => r = .none ∧ ∃ h' tk, s2 = { s with heap := h', toks := tk } ∧ Full prog w s.heap xs h') E) PySem.F.called_set.init.plain PySem.F.entry_set_init (check_set_init_1 isS ?_)) fun r2 s2 hr2 => ?_
    · obtain ⟨⟨oc, od, oda, osl⟩, ho, hcl, m, hda⟩ := hl
      cases (show oc = .type "list" from hcl)
      cases (show oda = .seq items m from hda)
      have ho2 : (s.heap.push (newS led)).get? l = some { cls := .type "list", dict := od, data := .seq items m, slots := osl } := Heap.get?_push_of_some _ ho
      have hl2 : (s.heap.push (newS led)).IsList l items := ⟨_, ho2, rfl, m, rfl⟩
      have y1 := PySem.F.sub_list_set
      have y2 := PySem.F.sub_list_frozenset
      have y3 : (Value.type "list" == Value.type "dict") = false := by decide
      unfold Builtin.«set.__init__» noKeywords Builtin.Frozenset.updateFrom
      generalize hp : pyIter = pI
      wp_walk
      subst hp
      refine wpAny_pyIter_list hl2 (wpAny_bind (wpAny_runValue ?_))
      have ll : l < s.heap.objs.size := Heap.lt_size ho
      have sz : (s.heap.push (newS led)).objs.size = s.heap.objs.size + 1 := Heap.size_push ..
      have n1 : l ≠ (s.heap.push (newS led)).objs.size := by rw [sz]; exact Nat.ne_of_lt (Nat.lt_succ_of_lt ll)
      have n2 : s.heap.objs.size ∉ [(s.heap.push (newS led)).objs.size, l] := by simp only [List.mem_cons, List.not_mem_nil, or_false, sz, not_or]; exact ⟨Nat.ne_of_lt (Nat.lt_succ_self _), Nat.ne_of_gt ll⟩
      have so : ((s.heap.push (newS led)).push (itS l)).SetOf (PySem.strKind prog w) s.heap.objs.size (seen xs 0) 0 := SetOf_congr ((setObjOf_fresh (knd := PySem.strKind prog w) led).setOf (Heap.get?_push_of_some _ new) (by unfold scanBound; omega)) (fun _ => rfl) rfl
      refine turns ((Walks.list (show A.in1.in1.in1.handled = none by simp [hh]) _ l n1 items).toS) n2 hn (by omega) nd at' items.size 0 _ (by omega) ⟨⟨_, Heap.get?_push_size _ rfl, rfl, rfl⟩, hl2.push _⟩ so fun s' hm so' => ?_
      obtain ⟨h', g', d', tk', os'⟩ := s'
      cases (show g' = s.gens from hm.gens)
      cases (show d' = s.drawn from hm.drawn)
      cases (show os' = s.os from hm.os)
      refine wpAny_pure (wpAny_pure ⟨rfl, h', tk', rfl, by rw [hn]; exact so', fun b o hb e => ?_⟩)
      refine hm.heap b o ?_ (Heap.get?_push_of_some _ (Heap.get?_push_of_some _ e))
      simp only [List.mem_cons, List.not_mem_nil, or_false, sz, not_or]
      exact ⟨Nat.ne_of_lt hb, Nat.ne_of_lt (Nat.lt_succ_of_lt hb)⟩
    · match r2, hr2 with
      | .error e, hr2 => exact hr2
      | .ok (.ret v), hr2 =>
        obtain ⟨rfl, h', tk, rfl, f⟩ := hr2
        repeat (any_goals (first | assumption | wp_step))
        exact q _ _ f
end
end Kn.Sets
namespace Kn
open PySem PySem.Spec PyProof.Rows L2
section
variable {X : Cx}
/-- len(set(xs)), xs a list of different texts -/
def tLenSetN (K : PySem.W.Frag) (ta : TE) : TE := fun σ H Q => ta σ H fun x H1 => ∃ (l : Addr) (xs : List Str), x = .ref l ∧ SqL K H1 l (xs.map V.str) ∧ xs.Nodup ∧ xs.length ≤ 4000 ∧ Q (.int xs.length) H1
theorem texts_at {xs : List Str} {us : List Value} (r : Vals (xs.map V.str) us) : xs.length = us.length ∧ ∀ (i : Nat) (v : Value), us[i]? = some v → ∃ (x : Str) (t : Tok), xs[i]? = some x ∧ v = .str x t := by
  refine ⟨by rw [← r.length, List.length_map], fun i v h => ?_⟩
  have lt : i < xs.length := by
    have := (List.getElem?_eq_some_iff.mp h).1
    rw [← r.length, List.length_map] at this
    exact this
  obtain ⟨u, hu, ru⟩ := r.get (i := i) (x := .str xs[i]) (by simp [lt])
  cases h.symm.trans hu
  obtain ⟨t, rfl⟩ := ru
  exact ⟨xs[i], t, List.getElem?_eq_getElem lt, rfl⟩
theorem pe_lenSetN {a : Expr} {ta : TE} {p p2 q pos : Pos} (hc : X.calm = true) (hg : Gl X "len") (hm : X.mg "len" = none) (hg2 : Gl X "set") (hm2 : X.mg "set" = none) (ha : PE X a ta)
    (na : starEach [a] X.env = (false, eval a X.env) :: starEach [] X.env := by rfl) : PE X (.Call (.Name "len" p) [.Call (.Name "set" p2) [a] [] q] [] pos) (tLenSetN X.K ta) := ⟨fun pins s σ H Q I h => by
  refine Call_ (ld_blt I hg hm boot_len (callWith_builtin1 (args_cons ?_ rfl) rfl rfl))
  refine Call_ (ld_blt I hg2 hm2 boot_set (callWith_type1 (args_cons (thn (ha.run pins s σ H _ I h) fun v s1 z => args_nil ?_) na) na rfl))
  obtain ⟨x, H1, I1, r1, l, xs, rfl, hq, nd, few, q1⟩ := z
  cases r1
  obtain ⟨us, r, pl, _⟩ := I1.list hq
  obtain ⟨hl, at'⟩ := texts_at r
  have hsz : xs.length = us.toArray.size := by rw [List.size_toArray]; exact hl
  refine Sets.make (I1.ok.hd hc) pl.isList (fun i v e => at' i v (by simpa using e)) hsz nd (by unfold scanBound; omega) fun h' tk f => args_nil ?_
  obtain ⟨⟨o, es, ep, t, ho, hex, hd, _, _, _, hf, hn⟩, hk⟩ := f
  have I2 : Inv X pins σ H1 { s1 with heap := h', toks := tk } := I1.kept fun b o e => hk b o (Heap.lt_size e) e
  exact call_len_set ho hex hd hf (by rw [hn]; omega) ⟨.int xs.length, H1, I2.tok _, ⟨_, by rw [hn]⟩, q1⟩⟩
end
end Kn

/-! ### rules: is True, classes made with arguments, texts of digits, enumerate, comprehensions of new tuples -/
namespace Kn
open PySem PySem.Spec PyProof.Rows L2 Evl SX
def snV : V → Bool
  | .non => true
  | .bl _ => true
  | .int _ => true
  | _ => false
def rIsB : R2 := fun x y H Q => ∃ b, y = .bl b ∧ snV x = true ∧ Q (.bl (decide (x = .bl b))) H
theorem op_isB {X : Cx} : OpR X (compareOp .Is) rIsB := by
  intro pins s σ H x y v u Q I rx ry h
  obtain ⟨b, rfl, hx, q⟩ := h
  cases ry
  cases x with
  | non => cases rx; exact wpAny_pure (fin_bl I q (by simp))
  | bl c => cases rx; exact wpAny_pure (fin_bl I q (by cases b <;> cases c <;> rfl))
  | int i => obtain ⟨t, rfl⟩ := rx; exact wpAny_pure (fin_bl I q (by simp))
  | _ => cases hx
section
variable {X : Cx} {k j : Nat} {C : Addr} {x m : Str} {sp : Sp} {p pos apos : Pos} {e o : Expr} {es : List Expr} {ta : TE} {t : TA}
theorem pe_mkr (c : Mkr X.prog X.w X.K X.mg X.base k x C sp) (hr : Room j X.A) (hk : k + 1 ≤ j) (hg : Gl X x) (ha : PA X (e :: es) t) (hdb : (x == ("__debug__" : Str)) = false := by decide)
    (hst : starEach (e :: es) X.env = (false, eval e X.env) :: starEach es X.env := by rfl) (hpl : (backTo pos (starEach es X.env)).any (·.1) = false := by rfl) :
    PE X (.Call (.Name x p) (e :: es) [] pos) (tMake C sp [] E0 t) := by
  obtain ⟨f, fd, ps, M, F, hm, b⟩ := c.ex
  exact pe_make M F (hr.mono hk) hg hm b .nil pass0 ha hdb hst hpl
end
def rAsc : V → List V → Hp → VK → Prop := fun x xs H Q => ∃ a, x = .str a ∧ xs = [] ∧ True ∧ Q (.bl (Txt.isascii a)) H
theorem mt_asc {X : Cx} : MtR X "str.isascii" rAsc := L2.mt_isascii
def rDig : V → List V → Hp → VK → Prop := fun x xs H Q => ∃ a, x = .str a ∧ xs = [] ∧ True ∧ Q (.bl (Txt.isdigit a)) H
theorem mt_dig {X : Cx} : MtR X "str.isdigit" rDig := L2.mt_isdigit
def rPart : V → List V → Hp → VK → Prop := fun x xs H Q => ∃ a b, x = .str a ∧ xs = [.str b] ∧ (b.length == 0) = false ∧ a.length ≤ sizeLine ∧ ∀ p, H p = none → Q (.ref p) (upd H p (.tup [.str (Txt.partition a b).1, .str (Txt.partition a b).2.1, .str (Txt.partition a b).2.2]))
theorem mt_part {X : Cx} : MtR X "str.partition" rPart := L2.mt_partition
def rIntS : List V → Hp → VK → Prop := fun xs H Q => ∃ a n, xs = [.str a] ∧ PySem.intText? a = some n ∧ a.length ≤ 640 ∧ Q (.int n) H
theorem cr_intS {X : Cx} : CallR X (.type "int") rIntS := call_int_str
def rTupS (K : PySem.W.Frag) : List V → Hp → VK → Prop := fun xs H Q => ∃ p ys, xs = [.ref p] ∧ ((SqL K H p ys ∧ ∀ l, H l = none → Q (.ref l) (upd H l (.tup ys))) ∨ (SqT K H p ys ∧ Q (.ref p) H))
theorem cr_tupS {X : Cx} : CallR X (.type "tuple") (rTupS X.K) := call_tuple_of
theorem cr_listS {X : Cx} : CallR X (.type "list") (rListS X.K) := call_list_of
section
variable {K : PySem.W.Frag} {σ : L2.St} {H H1 H' : Hp} {ta tb tc te tl tas : TE} {tA : TA} {a d C p : Addr} {v x : V} {D : Ends} {tu tw tz : TS} {xs ys : List V}
theorem EvU.mono (e : Ex H H') (h : EvU te σ H xs) : EvU te σ H' xs := fun H1 a Q q => h H1 (e.trans a) Q q
theorem rv_isB {b : Bool} (hx : snV x = true) : RV rIsB x (.bl b) H (.bl (decide (x = .bl b))) := fun H1 _ _ q => ⟨b, rfl, hx, q H1 (Ex.refl H1)⟩
theorem ev_asc {l : List Nat} (h : Ev ta σ H (.str (S l))) : Ev (tM0 rAsc ta) σ H (.bl (Txt.isascii (S l))) := fun H1 e Q q => h H1 e _ fun H2 e2 => ⟨⟨S l, rfl⟩, S l, rfl, rfl, trivial, q H2 e2⟩
theorem ev_dig {l : List Nat} (h : Ev ta σ H (.str (S l))) : Ev (tM0 rDig ta) σ H (.bl (Txt.isdigit (S l))) := fun H1 e Q q => h H1 e _ fun H2 e2 => ⟨⟨S l, rfl⟩, S l, rfl, rfl, trivial, q H2 e2⟩
theorem ev_intS {l : List Nat} {n : Int} (h : Ev ta σ H (.str (S l))) (hn : PySem.intText? (S l) = some n) (hl : l.length ≤ 640) : Ev (tCB rIntS (tCons ta tNil)) σ H (.int n) := fun H1 e Q q => h H1 e _ fun H2 e2 => ⟨S l, n, rfl, hn, by rw [S_len]; exact hl, q H2 e2⟩
theorem eu_tupL (h : EvL ta σ H xs) : EvU (tCB (rTupS K) (tCons ta tNil)) σ H xs := fun H1 e Q q => h H1 e _ fun p H2 np e2 hp => ⟨p, xs, rfl, .inl ⟨sq_of hp, fun l hl => q _ _ (fresh_back e2 hl) (e2.trans (Ex.new hl)) upd_same⟩⟩
theorem el_listT (h : Ev ta σ H (.ref p)) (hp : H p = some (.tup xs)) : EvL (tCB (rListS K) (tCons ta tNil)) σ H xs := fun H1 e Q q => h H1 e _ fun H2 e2 => ⟨p, xs, rfl, .inr (st_of ((e.trans e2) _ _ hp)), fun l hl => q _ _ (fresh_back e2 hl) (e2.trans (Ex.new hl)) upd_same⟩
theorem el_listU (h : EvU ta σ H xs) : EvL (tCB (rListS K) (tCons ta tNil)) σ H xs := fun H1 e Q q => h H1 e _ fun p H2 np e2 hp => ⟨p, xs, rfl, .inr (st_of hp), fun l hl => q _ _ (fresh_back e2 hl) (e2.trans (Ex.new hl)) upd_same⟩
theorem el_cat (h1 : EvL ta σ H xs) (h2 : EvL tb σ H ys) (hz : xs.length + ys.length ≤ 100000) : EvL (tOp rCat ta tb) σ H (xs ++ ys) := fun H1 e Q q =>
  h1 H1 e _ fun p H2 np e2 hp => h2 H2 (e.trans e2) _ fun b H3 nb e3 hb => ⟨p, b, xs, ys, rfl, rfl, e3 _ _ hp, hb, sz_of hz, fun l hl => q _ _ (fresh_back (e2.trans e3) hl) ((e2.trans e3).trans (Ex.new hl)) upd_same⟩
theorem eu_cat (h1 : EvU ta σ H xs) (h2 : EvU tb σ H ys) (hz : xs.length + ys.length ≤ 100000) (n1 : xs ≠ []) (n2 : ys ≠ []) : EvU (tOp (rCatT K) ta tb) σ H (xs ++ ys) := fun H1 e Q q =>
  h1 H1 e _ fun p H2 np e2 hp => h2 H2 (e.trans e2) _ fun b H3 nb e3 hb => ⟨p, b, xs, ys, rfl, rfl, st_of (e3 _ _ hp), st_of hb, n1, sz_of hz, fun z => absurd z n2, fun _ l hl => q _ _ (fresh_back (e2.trans e3) hl) ((e2.trans e3).trans (Ex.new hl)) upd_same⟩
/-- part of a tuple, not all of it -/
theorem eu_sl {tl th : TO} {lo hi : Option Int} (h : Ev te σ H (.ref p)) (h1 : EvO tl σ H lo) (h2 : EvO th σ H hi) (hp : H p = some (.tup xs)) (hne : ¬ (HT.sIx xs.length 0 lo = 0 ∧ HT.sIx xs.length xs.length hi = xs.length)) : EvU (tSl (rSlT K) te tl th) σ H (cutV xs lo hi) := fun H0 e Q q =>
  h H0 e _ fun H2 e2 => h1 H2 (e.trans e2) _ fun H3 e3 => h2 H3 ((e.trans e2).trans e3) _ fun H4 e4 => ⟨p, xs, rfl, st_of ((((e.trans e2).trans e3).trans e4) _ _ hp), hne, fun l hl => q _ _ (fresh_back ((e2.trans e3).trans e4) hl) (((e2.trans e3).trans e4).trans (Ex.new hl)) upd_same⟩
theorem ev_lenT (ha : Ev ta σ H (.ref p)) (h : H p = some (.tup xs)) : Ev (tCB (rLenS K) (tCons ta tNil)) σ H (.int (xs.length : Int)) := fun H1 e Q q => ha H1 e _ fun H2 e2 => ⟨p, xs, rfl, .inr (st_of ((e.trans e2) _ _ h)), q H2 e2⟩
theorem ev_revL (ha : Ev ta σ H (.ref p)) (h : SqL K H p xs) : EvL (tRevL K ta) σ H xs.reverse := fun H1 e Q q => ha H1 e _ fun H2 e2 => ⟨p, xs, rfl, ex_l (e.trans e2) h, fun l hl => q _ _ (fresh_back e2 hl) (e2.trans (Ex.new hl)) upd_same⟩
theorem et_isi {b : Bool} (h : Ev ta σ H (.bl b)) : EvT (tB ta) σ H b := et_B h
/-- len(set(..)) of a new list of different texts -/
theorem ev_lenSetV {ls : List (List Nat)} (h : Ev ta σ H (.ref p)) (hp : SqL K H p (ls.map fun l => V.str (S l))) (nd : ls.Nodup) (hl : ls.length ≤ 4000) : Ev (tLenSetN K ta) σ H (.int (ls.length : Int)) := fun H1 e Q q =>
  h H1 e _ fun H2 e2 => ⟨p, ls.map S, rfl, by rw [List.map_map]; exact ex_l (e.trans e2) hp, List.pairwise_map.mpr (nd.imp fun h z => h (S_inj z)), by rw [List.length_map]; exact hl, by rw [List.length_map]; exact q H2 e2⟩
/-! texts that begin with a text -/
theorem starts_pre {l m : List Nat} (hm : m ≠ []) : Txt.startswith (S l) (S m) = TL.pre m l := by
  have h := TL.at_iff (x := S l) (y := S m) hm 0
  unfold Txt.startswith
  rw [Bool.eq_iff_iff, Bool.and_eq_true, decide_eq_true_eq]
  exact h
theorem ev_startsG {l m : List Nat} (ha : Ev ta σ H (.str (S l))) (hb : Ev tb σ H (.str (S m))) (hm : m ≠ []) : Ev (tM1 rStarts ta tb) σ H (.bl (TL.pre m l)) := fun H1 e Q q =>
  ha H1 e _ fun H2 e2 => ⟨⟨S l, rfl⟩, hb H2 (e.trans e2) _ fun H3 e3 => ⟨S l, S m, rfl, rfl, by rw [starts_pre hm]; exact q H3 (e2.trans e3)⟩⟩
end
end Kn
namespace Kn
open PySem PySem.Spec PyProof.Rows L2 Evl SX
section
variable {K : PySem.W.Frag} {σ : L2.St} {H H1 H' : Hp} {ta tb tc te tl tas : TE} {t : TT} {tA : TA} {a d C p : Addr} {v x : V} {D : Ends} {tu tw tz : TS} {xs ys : List V}
theorem str_nat (n : Nat) : (toString ((n : Nat) : Int) : Str) = S (TL.numL n) := TL.ext_tl (TL.tl_num n)
theorem ev_fmtN {n : Nat} (h : Ev te σ H (.int (n : Int))) (hn : n.log2 < 1920) : Ev (tFmt te) σ H (.str (S (TL.numL n))) := fun H1 e Q q => h H1 e _ fun H2 e2 => .inr ⟨(n : Int), rfl, by rw [Int.natAbs_natCast]; exact hn, by rw [str_nat]; exact q H2 e2⟩
theorem ev_fmtZ {i : Int} (h : Ev te σ H (.int i)) (hn : i.natAbs.log2 < 1920) : Ev (tFmt te) σ H (.str (S (toString i : Str).cps.toList)) := fun H1 e Q q => h H1 e _ fun H2 e2 => .inr ⟨i, rfl, hn, q H2 e2⟩
theorem ev_strN {n : Nat} (h : Ev ta σ H (.int (n : Int))) (hn : n.log2 < 1920) : Ev (tCB rStrInt (tCons ta tNil)) σ H (.str (S (TL.numL n))) := fun H1 e Q q => h H1 e _ fun H2 e2 => ⟨(n : Int), rfl, by rw [Int.natAbs_natCast]; exact hn, by rw [str_nat]; exact q H2 e2⟩
theorem el_lcT {a : Addr} {xs : List V} {tl : TE} {j : Nat} {vs : List Nat} (f : Nat → Bool) (v : Nat → V) (h : Ev tl σ H (.ref a)) (hx : H a = some (.tup xs)) (hz : xs.length ≤ 40000) (hw : ∀ x, wipe ((wipe σ vs).set j (some x)) vs = wipe σ vs)
    (ht : ∀ (i : Nat) (x : V) H1, Ex H H1 → xs[i]? = some x → EvT t ((wipe σ vs).set j (some x)) H1 (f i)) (he : ∀ (i : Nat) (x : V) H1, Ex H H1 → xs[i]? = some x → f i = true → Ev te ((wipe σ vs).set j (some x)) H1 (v i)) :
    EvL (tLc (iTup K tl) (gName j) t te vs) σ H (given xs.length f v) := fun H0 e Q q => h H0 e _ fun H1 e1 => ⟨a, rfl, ⟨xs, st_of ((e.trans e1) _ _ hx)⟩, fun Dl hD =>
  lc_it (walk_tup (xs := xs)) (Cw H1 f v Dl) ⟨hD, Ex.new hD, upd_same⟩ (fun i H' _ p => st_of (p.2.1 _ _ ((e.trans e1) _ _ hx))) (fun i x H2 H3 hi p y => by
    obtain ⟨rfl, hy⟩ := y
    exact ⟨hw x, cw_turn p (by omega) (ht i x H1 (e.trans e1) hy) (fun hf => he i x H1 (e.trans e1) hy hf)⟩)
    (fun H' p => q Dl H' (fresh_back e1 p.1) (e1.trans p.2.1) p.2.2)⟩
/-- over a tuple, each item mapped -/
theorem el_lcTM {τ : Type} {a : Addr} {ns : List τ} {g f : τ → V} {tl : TE} {j : Nat} {vs : List Nat} (h : Ev tl σ H (.ref a)) (hx : H a = some (.tup (ns.map g))) (hz : ns.length ≤ 40000) (hw : ∀ x, wipe ((wipe σ vs).set j (some x)) vs = wipe σ vs)
    (he : ∀ n ∈ ns, ∀ H1, Ex H H1 → Ev te ((wipe σ vs).set j (some (g n))) H1 (f n)) : EvL (tLc (iTup K tl) (gName j) tYes te vs) σ H (ns.map f) := by
  have z := el_lcT (K := K) (te := te) (t := tYes) (fun _ => true) (fun i => (ns[i]?.map f).getD .non) h hx (by rw [List.length_map]; exact hz) hw (fun _ _ _ _ _ => et_yes) (fun i x H1 e1 hi _ => by
    rw [List.getElem?_map] at hi
    obtain ⟨n, hn, rfl⟩ := Option.map_eq_some_iff.mp hi
    show Ev _ _ _ ((ns[i]?.map f).getD .non)
    rw [hn]
    exact he n (List.mem_of_getElem? hn) H1 e1)
  rw [List.length_map, given_all] at z
  exact z
/-- a new list of new tuples -/
def EvNs (te : TE) (σ : L2.St) (H : Hp) (ys : List (List V)) : Prop := ∀ H1, Ex H H1 → ∀ Q : VK, (∀ p (as : List Addr) H2, H1 p = none → Ex H1 H2 → H2 p = some (.lst (as.map V.ref)) → Paired (fun a y => H2 a = some (.tup y)) as ys → Q (.ref p) H2) → te σ H1 Q
def Cn (H : Hp) (g : Nat → List V) (Dl : Addr) (i : Nat) (H' : Hp) : Prop := H Dl = none ∧ Ex H H' ∧ ∃ as : List Addr, H' Dl = some (.lst (as.map V.ref)) ∧ Paired (fun a y => H' a = some (.tup y)) as ((List.range i).map g)
theorem pair_snoc {α β : Type} {F : α → β → Prop} {a : α} {b : β} (h : F a b) : ∀ {as : List α} {bs : List β}, Paired F as bs → Paired F (as ++ [a]) (bs ++ [b])
  | _, _, .nil => .cons h .nil
  | _, _, .cons x r => .cons x (pair_snoc h r)
theorem cn_turn {H H' : Hp} {g : Nat → List V} {Dl : Addr} {i : Nat} {σ2 : L2.St} (p : Cn H g Dl i H') (hi : i < 50000) (he : EvU te σ2 H (g i)) :
    tYes σ2 H' fun b H3 => if b = true then te σ2 H3 fun y H4 => ∃ acc, H4 Dl = some (.lst acc) ∧ acc.length < sizeLine ∧ Cn H g Dl (i + 1) (upd H4 Dl (.lst (acc ++ [y]))) else Cn H g Dl (i + 1) H3 := by
  obtain ⟨p1, p2, as, p3, p4⟩ := p
  show te σ2 H' _
  have hl : as.length = i := by rw [Paired.length p4, List.length_map, List.length_range]
  refine he H' p2 _ fun q H4 nq e4 hq => ⟨as.map V.ref, e4 Dl _ p3, sz_lt (by rw [List.length_map]; omega), p1, Ex.mut (p2.trans e4) p1, as ++ [q], by rw [List.map_append]; exact upd_same, ?_⟩
  rw [List.range_succ, List.map_append]
  refine pair_snoc ?_ (Paired.mapP p4 fun b y hb => ?_)
  · rw [upd_ne (ne_of hq (e4 _ _ p3) (by intro z; cases z))]
    exact hq
  · rw [upd_ne (ne_of (e4 _ _ hb) (e4 _ _ p3) (by intro z; cases z))]
    exact e4 _ _ hb
theorem ns_lcNL {xs : List V} {tl : TE} {j : Nat} {vs : List Nat} (g : Nat → List V) (h : EvL tl σ H xs) (hz : xs.length ≤ 40000) (hw : ∀ x, wipe ((wipe σ vs).set j (some x)) vs = wipe σ vs)
    (he : ∀ (i : Nat) (x : V) H1, Ex H H1 → xs[i]? = some x → EvU te ((wipe σ vs).set j (some x)) H1 (g i)) :
    EvNs (tLc (iList K tl) (gName j) tYes te vs) σ H ((List.range xs.length).map g) := fun H0 e Q q => h H0 e _ fun a H1 ha e1 hx => ⟨a, rfl, ⟨xs, sq_of hx⟩, fun Dl hD =>
  lc_list (xs := xs) (Cn H1 g Dl) ⟨hD, Ex.new hD, [], upd_same, .nil⟩ (fun i H' _ p => sq_of (p.2.1 a _ hx)) (fun i x H' hi p => ⟨hw x, cn_turn p (by have := (List.getElem?_eq_some_iff.mp hi).1; omega) (he i x H1 (e.trans e1) hi)⟩)
    (fun H' p => by
      obtain ⟨p1, p2, as, p3, p4⟩ := p
      exact q Dl as H' (fresh_back e1 p1) (e1.trans p2) p3 p4)⟩
/-- over a list that lies there -/
theorem ns_lcL {a : Addr} {xs : List V} {tl : TE} {j : Nat} {vs : List Nat} (g : Nat → List V) (h : Ev tl σ H (.ref a)) (hx : SqL K H a xs) (hz : xs.length ≤ 40000) (hw : ∀ x, wipe ((wipe σ vs).set j (some x)) vs = wipe σ vs)
    (he : ∀ (i : Nat) (x : V) H1, Ex H H1 → xs[i]? = some x → EvU te ((wipe σ vs).set j (some x)) H1 (g i)) :
    EvNs (tLc (iList K tl) (gName j) tYes te vs) σ H ((List.range xs.length).map g) := fun H0 e Q q => h H0 e _ fun H1 e1 => ⟨a, rfl, ⟨xs, ex_l (e.trans e1) hx⟩, fun Dl hD =>
  lc_list (xs := xs) (Cn H1 g Dl) ⟨hD, Ex.new hD, [], upd_same, .nil⟩ (fun i H' _ p => ex_l ((e.trans e1).trans p.2.1) hx) (fun i x H' hi p => ⟨hw x, cn_turn p (by have := (List.getElem?_eq_some_iff.mp hi).1; omega) (he i x H1 (e.trans e1) hi)⟩)
    (fun H' p => by
      obtain ⟨p1, p2, as, p3, p4⟩ := p
      exact q Dl as H' (fresh_back e1 p1) (e1.trans p2) p3 p4)⟩
theorem ns_lcR {n : Int} {j : Nat} {vs : List Nat} (g : Nat → List V) (h : EvA tA σ H [.int n]) (hn : 0 ≤ n ∧ n ≤ 40000) (hw : ∀ x, wipe ((wipe σ vs).set j (some x)) vs = wipe σ vs)
    (he : ∀ (i : Nat) H1, Ex H H1 → (i : Int) < n → EvU te ((wipe σ vs).set j (some (.int (i : Int)))) H1 (g i)) :
    EvNs (tLc (iRng1 tA) (gName j) tYes te vs) σ H ((List.range n.toNat).map g) := fun H0 e Q q => h H0 e _ fun H1 e1 => ⟨n, rfl, by omega, by omega, fun Dl hD =>
  lc_range (lo := 0) (n := n.toNat) (Cn H1 g Dl) ⟨hD, Ex.new hD, [], upd_same, .nil⟩ (fun i H' hi p => by
    have e0 : (0 : Int) + (i : Int) = (i : Int) := Int.zero_add _
    show wipe ((wipe σ vs).set j (some (.int ((0 : Int) + (i : Int))))) vs = wipe σ vs ∧ tYes ((wipe σ vs).set j (some (.int ((0 : Int) + (i : Int))))) H' fun b H3 => if b = true then te ((wipe σ vs).set j (some (.int ((0 : Int) + (i : Int))))) H3 fun y H4 => ∃ acc, H4 Dl = some (.lst acc) ∧ acc.length < sizeLine ∧ Cn H1 g Dl (i + 1) (upd H4 Dl (.lst (acc ++ [y]))) else Cn H1 g Dl (i + 1) H3
    rw [e0]
    exact ⟨hw _, cn_turn p (by omega) (he i H1 (e.trans e1) (by omega))⟩) (fun H' p => by
      obtain ⟨p1, p2, as, p3, p4⟩ := p
      exact q Dl as H' (fresh_back e1 p1) (e1.trans p2) p3 p4)⟩
/-- tuple(..) of such a list -/
def EvNt (te : TE) (σ : L2.St) (H : Hp) (ys : List (List V)) : Prop := ∀ H1, Ex H H1 → ∀ Q : VK, (∀ p (as : List Addr) H2, H1 p = none → Ex H1 H2 → H2 p = some (.tup (as.map V.ref)) → Paired (fun a y => H2 a = some (.tup y)) as ys → Q (.ref p) H2) → te σ H1 Q
theorem nt_tup {ys : List (List V)} (h : EvNs te σ H ys) : EvNt (tCB (rTupS K) (tCons te tNil)) σ H ys := fun H1 e Q q => h H1 e _ fun p as H2 np e2 hp hP =>
  ⟨p, as.map V.ref, rfl, .inl ⟨sq_of hp, fun l hl => q _ as _ (fresh_back e2 hl) (e2.trans (Ex.new hl)) upd_same (Paired.mapP hP fun b y hb => Ex.new hl _ _ hb)⟩⟩
theorem q_asgN {i : Nat} {ys : List (List V)} (h : EvNt te σ H ys) (k : ∀ p (as : List Addr) H1, H p = none → Ex H H1 → H1 p = some (.tup (as.map V.ref)) → Paired (fun a y => H1 a = some (.tup y)) as ys → tz D (σ.set i (some (.ref p))) H1) : tSeq (tAsg te (gName i)) tz D σ H := h H (Ex.refl H) _ fun p as H1 hp e h1 h2 => k p as H1 hp e h1 h2
/-- for i, x in enumerate(xs) -/
theorem q_forEn {a : Addr} {xs : List V} {tl : TE} {i j : Nat} (h : Ev tl σ H (.ref a)) (hx : SqL K H a xs) (Pv : Nat → L2.St → Hp → Prop) (h0 : ∀ H1, Ex H H1 → Pv 0 σ H1) (hl : ∀ n σ' H', n ≤ xs.length → Pv n σ' H' → SqL K H' a xs)
    (hs : ∀ n x σ' H' H2, xs[n]? = some x → Pv n σ' H' → Ex H' H2 → tu { D with nx := Pv (n + 1), ct := Pv (n + 1), bk := tz D } ((σ'.set i (some (.int (n : Int)))).set j (some x)) H2) (hd : ∀ σ' H', Pv xs.length σ' H' → tz D σ' H') :
    tSeq (tFor (iEnum K (tCons tl tNil)) (gTup K 2 (gCons (gName i) (gCons (gName j) gNil))) tu) tz D σ H :=
  h H (Ex.refl H) _ fun H1 e => ⟨a, xs, rfl, ex_l e hx, for_it (D := { D with nx := tz D }) walk_enum Pv (h0 H1 e) hl (fun n v σ' H2 H3 hn p y => by
    obtain ⟨T, u, w, rfl, nT, rfl, hu, hw⟩ := y
    cases hu
    exact unp2 upd_same (hs n w σ' H2 _ hw p (Ex.new nT))) hd⟩
end
end Kn
/-! ### errors with a number -/
namespace Kn
open PySem PySem.Spec PyProof.Rows L2 Evl SX
section
variable {K : PySem.W.Frag} {σ : L2.St} {H H1 H' : Hp} {te : TE} {C a : Addr} {f : Str} {i : Int}
def SmI (i : Int) : Prop := i.natAbs.log2 < 1920 ∧ (toString i : Str).cps.toList.length ≤ 1000
theorem small_I : ∀ i : Nat, i < 1100 → SmI ((i : Int) - 50) := by unfold SmI; decide +kernel
theorem sm_I {i : Int} (h : -50 ≤ i) (h2 : i < 1050) : SmI i := by
  have z := small_I (i + 50).toNat (by omega)
  rw [show (((i + 50).toNat : Nat) : Int) - 50 = i by omega] at z
  exact z
def sp_I1z (f : Str) (K : PySem.W.Frag) : Sp := fun vs H Q _ => ∃ (a C : Addr) (i : Int), vs = [.ref a, .int i] ∧ SmI i ∧ H a = some (exo a C none) ∧ OexC K C ∧ PySem.W.findIn K (.ref C) f = some none ∧
  ∀ dx H', H dx = none → dx ≠ a → XMade H H' a C dx [(f, .int i)] → Q .non H'
theorem raise1z {W : WX} (oe : OexC K C) (nf : PySem.W.findIn K (.ref C) f = some none) (hi : SmI i) (hv : Ev te σ H (.int i))
    (hk : ∀ d H', Ex H H' → H' d = some (.xd [(f, .int i)]) → W (.ref C) (some d) σ H') : tMkO C (sp_I1z f K) [] (tCons te tNil) σ H (fun cls d H' => W cls d σ H') :=
  hv H (Ex.refl H) _ fun H2 e2 => ⟨(by show 1 ≤ 1000; decide), fun a na => ⟨a, C, i, rfl, hi, upd_same, oe, nf, fun dx H' hdx ne m =>
    ⟨rfl, dx, _, m.1, m.2.1, upd_none hdx, xm_raise e2 na (upd_none hdx) m hk⟩⟩⟩
end
end Kn

/-! ### keys of texts -/
namespace Kn.Rp
open PySem PySem.Spec PyProof.Rows L2 Evl SX Kn
def key (l : List Nat) : Nat := l.foldl (fun a c => a * 128 + c) 1
theorem key_snoc (l : List Nat) (c : Nat) : key (l ++ [c]) = key l * 128 + c := by
  unfold key
  rw [List.foldl_append]
  rfl
theorem key_pos (l : List Nat) : 1 ≤ key l := by
  have h : ∀ (l : List Nat) (a : Nat), 1 ≤ a → 1 ≤ l.foldl (fun a c => a * 128 + c) a := fun l => by
    induction l with
    | nil => exact fun a h => h
    | cons c r ih => exact fun a h => ih (a * 128 + c) (by omega)
  exact h l 1 (Nat.le_refl 1)
theorem key_inj_rev : ∀ (a b : List Nat), (∀ c ∈ a, c < 128) → (∀ c ∈ b, c < 128) → key a.reverse = key b.reverse → a = b
  | [], [], _, _, _ => rfl
  | [], d :: r, _, _, h => by
    rw [List.reverse_cons, key_snoc] at h
    have := key_pos r.reverse
    have e : key ([] : List Nat).reverse = 1 := rfl
    omega
  | c :: r, [], _, _, h => by
    rw [List.reverse_cons, key_snoc] at h
    have := key_pos r.reverse
    have e : key ([] : List Nat).reverse = 1 := rfl
    omega
  | c :: r, d :: t, h1, h2, h => by
    rw [List.reverse_cons, List.reverse_cons, key_snoc, key_snoc] at h
    have hc := h1 c List.mem_cons_self
    have hd := h2 d List.mem_cons_self
    have e1 : c = d := by omega
    have e2 : key r.reverse = key t.reverse := by omega
    rw [e1, key_inj_rev r t (fun x hx => h1 x (List.mem_cons_of_mem _ hx)) (fun x hx => h2 x (List.mem_cons_of_mem _ hx)) e2]
theorem key_inj {a b : List Nat} (h1 : ∀ c ∈ a, c < 128) (h2 : ∀ c ∈ b, c < 128) (h : key a = key b) : a = b := by
  have z := key_inj_rev a.reverse b.reverse (fun c hc => h1 c (List.mem_reverse.mp hc)) (fun c hc => h2 c (List.mem_reverse.mp hc)) (by rw [List.reverse_reverse, List.reverse_reverse]; exact h)
  exact List.reverse_inj.mp z
theorem key_lt : ∀ (l : List Nat) (a : Nat), (∀ c ∈ l, c < 128) → l.foldl (fun a c => a * 128 + c) a < (a + 1) * 128 ^ l.length
  | [], a, _ => by
    show a < (a + 1) * 128 ^ 0
    omega
  | c :: r, a, h => by
    have hc := h c List.mem_cons_self
    have ih := key_lt r (a * 128 + c) fun x hx => h x (List.mem_cons_of_mem _ hx)
    rw [List.foldl_cons, List.length_cons, Nat.pow_succ]
    refine Nat.lt_of_lt_of_le ih ?_
    have e : (a + 1) * (128 ^ r.length * 128) = (a + 1) * 128 * 128 ^ r.length := by
      rw [Nat.mul_comm (128 ^ r.length) 128, Nat.mul_assoc]
    rw [e]
    exact Nat.mul_le_mul_right _ (by omega)
theorem key_log {l : List Nat} (h : ∀ c ∈ l, c < 128) (hl : l.length ≤ 200) : (key l).log2 < 1920 := by
  have h0 := key_pos l
  refine (Nat.log2_lt (by omega)).mpr (Nat.lt_of_lt_of_le (key_lt l 1 h) ?_)
  have e : 128 ^ l.length ≤ 128 ^ 200 := Nat.pow_le_pow_right (by decide) hl
  refine Nat.le_trans (Nat.mul_le_mul_left _ e) (by decide +kernel)
theorem hv_bit : ∀ d, d < 2 → L2.Hx.hv (48 + d) = d := by decide
theorem fold_pad (a d : Nat) (h : d < 128) : (Bi.pad7 d).foldl (fun a c => a * 2 + L2.Hx.hv c) a = a * 128 + d := by
  unfold Bi.pad7
  simp only [List.foldl_cons, List.foldl_nil]
  rw [hv_bit _ (Nat.mod_lt _ (by decide)), hv_bit _ (Nat.mod_lt _ (by decide)), hv_bit _ (Nat.mod_lt _ (by decide)), hv_bit _ (Nat.mod_lt _ (by decide)), hv_bit _ (Nat.mod_lt _ (by decide)), hv_bit _ (Nat.mod_lt _ (by decide)), hv_bit _ (Nat.mod_lt _ (by decide))]
  omega
theorem fold_pads : ∀ (l : List Nat) (a : Nat), (∀ c ∈ l, c < 128) → ((l.map Bi.pad7).flatten).foldl (fun a c => a * 2 + L2.Hx.hv c) a = l.foldl (fun a c => a * 128 + c) a
  | [], a, _ => rfl
  | c :: l, a, h => by
    rw [List.map_cons, List.flatten_cons, List.foldl_append, fold_pad a c (h c List.mem_cons_self), fold_pads l _ fun d hd => h d (List.mem_cons_of_mem _ hd)]
    rfl
theorem bin_key {l : List Nat} (h : ∀ c ∈ l, c < 128) : Bi.binNum ([49] ++ (l.map Bi.pad7).flatten) = key l := by
  unfold Bi.binNum key
  rw [List.foldl_append, ← fold_pads l 1 h]
  rfl
theorem isbin_pad (d : Nat) : ∀ c ∈ Bi.pad7 d, Bi.IsBin c := fun c hc => by
  unfold Bi.pad7 at hc
  simp only [List.mem_cons, List.not_mem_nil, or_false] at hc
  unfold Bi.IsBin
  omega
theorem bin_all (l : List Nat) : ∀ c ∈ [49] ++ (l.map Bi.pad7).flatten, Bi.IsBin c := fun c hc => by
  rcases List.mem_append.mp hc with h | h
  · rw [List.mem_singleton.mp h]
    exact .inr rfl
  · obtain ⟨x, hx, hc2⟩ := List.mem_flatten.mp h
    obtain ⟨d, _, rfl⟩ := List.mem_map.mp hx
    exact isbin_pad d c hc2
theorem flat_len : ∀ r : List Nat, ((r.map Bi.pad7).flatten).length = 7 * r.length
  | [] => rfl
  | d :: r => by
    rw [List.map_cons, List.flatten_cons, List.length_append, flat_len r, List.length_cons]
    show 7 + _ = _
    omega
theorem ev_fmt7 {σ : L2.St} {H : Hp} {te : TE} {d : Nat} (h : Ev te σ H (.int (d : Int))) (hd : d < 128) : Ev (Bi.tFmt7 te) σ H (.str (S (Bi.pad7 d))) := fun H1 e Q q =>
  h H1 e _ fun H2 e2 => ⟨d, rfl, hd, q H2 e2⟩
theorem ev_intBinL {σ : L2.St} {H : Hp} {ta tb : TE} {l : List Nat} (h : EvA (tCons ta (tCons tb tNil)) σ H [.str (S l), .int 2]) (hne : l ≠ []) (hb : ∀ c ∈ l, Bi.IsBin c) : Ev (tCB Bi.rIntBinL (tCons ta (tCons tb tNil))) σ H (.int ((Bi.binNum l : Nat) : Int)) := fun H1 e Q q =>
  h H1 e _ fun H2 e2 => ⟨l, rfl, hne, hb, q H2 e2⟩
end Kn.Rp
/-! ### records: what is written, and what is read -/
namespace Kn.Rp
open PySem PySem.Spec PyProof.Rows L2 Evl SX Kn
inductive Sn where
  | no
  | b (x : Bool)
  | k (n : Nat)
structure Nd where
  ws : List (List Nat)
  sn : Sn
structure Rc where
  outs : List (List Nat)
  key : Nat
  needs : List Nd
  res : List Nat
def snD : Sn → V
  | .no => .non
  | .b x => .bl x
  | .k n => .int (n : Int)
def strsV (ls : List (List Nat)) : List V := ls.map fun l => V.str (S l)
def ndD (d : Nd) : List V := strsV d.ws ++ [snD d.sn]
def yesL : List Nat := [121, 101, 115]
def nooL : List Nat := [110, 111]
def fmtSn : Sn → List Nat
  | .no => [45]
  | .b x => if x = true then yesL else nooL
  | .k n => TL.numL n
def fmtNd (d : Nd) : List Nat := TL.joinL [58] (d.ws ++ [fmtSn d.sn])
def fmtNds (l : List Nd) : List Nat := if l.length = 0 then [45] else TL.joinL [59] (l.map fmtNd)
def words (r : Rc) : List (List Nat) := [TL.joinL [44] r.outs, TL.numL r.key, fmtNds r.needs, TL.joinL [44] (r.res.map TL.numL)]
def fmtRc (r : Rc) : List Nat := TL.joinL [32] (words r)
/-- a record that lies in the heap -/
def fldR (o : Addr) (k : Nat) (t q : Addr) : List (Str × V) := putF "results" (.ref q) (putF "needs" (.ref t) (putF "rule_key" (.int (k : Int)) (putF "outputs" (.ref o) [])))
structure RcO (C : Addr) (H : Hp) (p : Addr) (r : Rc) : Prop where
  ex : ∃ (dx o t q : Addr) (as : List Addr), H p = some (.ins C dx (fldR o r.key t q)) ∧ H o = some (.tup (strsV r.outs)) ∧ H t = some (.tup (as.map V.ref)) ∧ Paired (fun a y => H a = some (.tup y)) as (r.needs.map ndD) ∧ H q = some (.tup (r.res.map fun n : Nat => V.int (n : Int)))
theorem RcO.mono {C : Addr} {H H1 : Hp} {p : Addr} {r : Rc} (h : RcO C H p r) (e : Ex H H1) : RcO C H1 p r := by
  obtain ⟨dx, o, t, q, as, h1, h2, h3, h4, h5⟩ := h.ex
  exact ⟨dx, o, t, q, as, e _ _ h1, e _ _ h2, e _ _ h3, Paired.mapP h4 fun _ _ z => e _ _ z, e _ _ h5⟩
theorem fr_o (o : Addr) (k : Nat) (t q : Addr) : (fldR o k t q).lookup ("outputs" : Str) = some (.ref o) := by rfl
theorem fr_k (o : Addr) (k : Nat) (t q : Addr) : (fldR o k t q).lookup ("rule_key" : Str) = some (.int (k : Int)) := by rfl
theorem fr_n (o : Addr) (k : Nat) (t q : Addr) : (fldR o k t q).lookup ("needs" : Str) = some (.ref t) := by rfl
theorem fr_r (o : Addr) (k : Nat) (t q : Addr) : (fldR o k t q).lookup ("results" : Str) = some (.ref q) := by rfl
/-- what reading a line comes to -/
def isNum (l : List Nat) : Bool := decide ((l.length : Int) ≤ 4000) && (Txt.isascii (S l) && (Txt.isdigit (S l) && !decide (l[0]? = some 48)))
def numOrNot (l : List Nat) : Bool := decide (l = [45]) || isNum l
def NS : List Nat := (Str.ofString "abcdefghijklmnopqrstuvwxyz0123456789_.").cps.toList
def IS : List Nat := (Str.ofString "abcdefghijklmnopqrstuvwxyz0123456789_").cps.toList
def LS : List Nat := (Str.ofString "abcdefghijklmnopqrstuvwxyz").cps.toList
def nameOk (G n : List Nat) : Bool := !(!(decide (1 ≤ (n.length : Int)) && decide ((n.length : Int) ≤ 12)) || decide (n[0]? = some 46)) && n.all fun c => decide (c ∈ G)
def pathOk (l : List Nat) : Bool := decide (((cut1 47 l).length : Int) ≤ 4) && (cut1 47 l).all (nameOk NS)
def patOk (l : List Nat) : Bool := decide (cnt 42 l = 1) && pathOk (l.map fun e => if e = 42 then 97 else e)
def npOk (l : List Nat) : Bool := !decide (47 ∈ l) && patOk l
def idOk (l : List Nat) : Bool := !(!(decide (1 ≤ (l.length : Int)) && decide ((l.length : Int) ≤ 12)) || !decide (l.getD 0 0 ∈ LS)) && l.all fun c => decide (c ∈ IS)
def folderOk (l : List Nat) : Bool := decide (l = []) || pathOk l
def fileL : List Nat := (Str.ofString "file").cps.toList
def hasL : List Nat := (Str.ofString "has").cps.toList
def lstL : List Nat := (Str.ofString "listing").cps.toList
def setL : List Nat := (Str.ofString "setting").cps.toList
def lnkL : List Nat := (Str.ofString "link").cps.toList
def needK (kind x y seen : List Nat) (n : Nat) : Bool :=
  if kind = lstL then decide (n = 4) && (folderOk x && (npOk y && isNum seen))
  else if n ≠ 3 then false
  else if kind = setL then idOk x && numOrNot seen
  else if kind = hasL then pathOk x && (decide (seen = yesL) || decide (seen = nooL))
  else (decide (kind = fileL) || decide (kind = lnkL)) && (pathOk x && numOrNot seen)
def needI (it : List (List Nat)) : Bool := needK (it.getD 0 []) (it.getD 1 []) (it.getD 2 []) (it.getD (it.length - 1) []) it.length
def needOk (w : List Nat) : Bool := needI (cut1 58 w)
def quest (w : List Nat) : Str := (Txt.rpartition (S w) (S [58])).1
def outsOk (ws : List (List Nat)) : Bool := decide (ws.length ≤ 3) && ws.all pathOk
def needsOk (ws : List (List Nat)) : Bool := decide (ws.length ≤ 60) && ws.all needOk
def readSn (w : List Nat) : Sn := if w = [45] then .no else if w = yesL then .b true else if w = nooL then .b false else .k (NumText.digitsVal w)
def readNd (w : List Nat) : Nd := ⟨(cut1 58 w).dropLast, readSn ((cut1 58 w).getLastD [])⟩
end Kn.Rp
/-! ### what is written is read back -/
namespace Kn.Rp
open PySem PySem.Spec PyProof.Rows L2 Evl SX Kn
theorem cut_join {c : Nat} {ps : List (List Nat)} (h : ps ≠ []) (h2 : ∀ p ∈ ps, c ∉ p) : cut1 c (TL.joinL [c] ps) = ps := TL.spl_join h h2
theorem dig_small : ∀ c, c < 128 → (Unicode.isDigit c = true ↔ (48 ≤ c ∧ c ≤ 57)) := by decide +kernel
theorem num_digits {l : List Nat} (h : NumText.AllDigits l) (hne : l ≠ []) : Txt.isascii (S l) = true ∧ Txt.isdigit (S l) = true := by
  have e1 : Txt.isascii (S l) = l.all (fun c => decide (c < 128)) := by
    unfold Txt.isascii
    show (l.toArray).all _ = _
    simp
  have e2 : Txt.isdigit (S l) = (decide (l.length > 0) && l.all Unicode.isDigit) := by
    unfold Txt.isdigit
    rw [S_len]
    show (decide (l.length > 0) && (l.toArray).all _) = _
    simp
  refine ⟨?_, ?_⟩
  · rw [e1, List.all_eq_true]
    intro c hc
    have := h c hc
    exact decide_eq_true (by omega)
  · rw [e2, Bool.and_eq_true, decide_eq_true_eq, List.all_eq_true]
    refine ⟨List.length_pos_iff.mpr hne, fun c hc => ?_⟩
    have := h c hc
    exact (dig_small c (by omega)).mpr this
theorem isnum_digits {l : List Nat} (h : isNum l = true) : NumText.AllDigits l ∧ l ≠ [] := by
  unfold isNum at h
  rw [Bool.and_eq_true, Bool.and_eq_true, Bool.and_eq_true] at h
  obtain ⟨_, h1, h2, _⟩ := h
  have e1 : Txt.isascii (S l) = l.all (fun c => decide (c < 128)) := by
    unfold Txt.isascii
    show (l.toArray).all _ = _
    simp
  have e2 : Txt.isdigit (S l) = (decide (l.length > 0) && l.all Unicode.isDigit) := by
    unfold Txt.isdigit
    rw [S_len]
    show (decide (l.length > 0) && (l.toArray).all _) = _
    simp
  rw [e1, List.all_eq_true] at h1
  rw [e2, Bool.and_eq_true, decide_eq_true_eq, List.all_eq_true] at h2
  exact ⟨fun c hc => (dig_small c (of_decide_eq_true (h1 c hc))).mp (h2.2 c hc), List.length_pos_iff.mp h2.1⟩
theorem num_head : ∀ (k n : Nat), n < 10 ^ k → 0 < n → ∃ c r, TL.numL n = c :: r ∧ c ≠ 48
  | 0, n, h, h0 => absurd h (by rw [Nat.pow_zero]; omega)
  | k + 1, n, h, h0 => by
    by_cases h10 : n < 10
    · exact ⟨_, _, TL.numL_lt h10, by omega⟩
    · obtain ⟨c, r, e, hc⟩ := num_head k (n / 10) (by rw [Nat.pow_succ] at h; omega) (by omega)
      exact ⟨c, r ++ [48 + n % 10], by rw [TL.numL_step (by omega), e]; rfl, hc⟩
def GK (n : Nat) : Prop := 0 < n ∧ n < 2 ^ 1900
theorem GK.ten {n : Nat} (h : GK n) : n < 10 ^ 600 := Nat.lt_trans h.2 (by decide +kernel)
theorem GK.len {n : Nat} (h : GK n) : (TL.numL n).length ≤ 600 := TL.numL_len (by decide) h.ten
theorem GK.log {n : Nat} (h : GK n) : n.log2 < 1920 := by
  have := h.1
  have := (Nat.log2_lt (by omega)).mpr h.2
  omega
theorem GK.num {n : Nat} (h : GK n) : isNum (TL.numL n) = true := by
  obtain ⟨c, r, e, hc⟩ := num_head 600 n h.ten h.1
  have hd := num_digits (TL.numL_digits n) (TL.numL_ne n)
  have hl := h.len
  unfold isNum
  rw [hd.1, hd.2, decide_eq_true (by omega), e]
  simp [hc]
theorem intS {l : List Nat} (h : NumText.AllDigits l) (hne : l ≠ []) (hl : l.length ≤ 640) : PySem.intText? (S l) = some ((NumText.digitsVal l : Nat) : Int) :=
  PySem.intText_digits (x := S l) h hne (by rw [S_len]; omega)
def GSn : Sn → Prop
  | .no => True
  | .b _ => True
  | .k n => GK n
theorem sn_free {s : Sn} (h : GSn s) {c : Nat} (hc : c = 58 ∨ c = 59 ∨ c = 32 ∨ c = 44) : c ∉ fmtSn s := by
  cases s with
  | no => rcases hc with rfl | rfl | rfl | rfl <;> decide
  | b x => cases x <;> rcases hc with rfl | rfl | rfl | rfl <;> decide
  | k n => exact TL.numL_free (by omega)
theorem num_not {n : Nat} {l : List Nat} (h : ∃ c ∈ l, c < 48 ∨ 57 < c) : TL.numL n ≠ l := fun e => by
  obtain ⟨c, hc, hh⟩ := h
  rw [← e] at hc
  exact TL.numL_free hh hc
theorem sn_read {s : Sn} (h : GSn s) : readSn (fmtSn s) = s := by
  cases s with
  | no => rfl
  | b x => cases x <;> rfl
  | k n =>
    show readSn (TL.numL n) = _
    unfold readSn
    rw [if_neg (num_not ⟨45, by decide, by decide⟩), if_neg (num_not ⟨121, by decide, by decide⟩), if_neg (num_not ⟨110, by decide, by decide⟩), TL.numL_val]
theorem sn_kn {s : Sn} (h : GSn s) (hb : ∀ b, s ≠ .b b) : numOrNot (fmtSn s) = true := by
  unfold numOrNot
  cases s with
  | no => rfl
  | b x => exact absurd rfl (hb x)
  | k n =>
    show (_ || isNum (TL.numL n)) = true
    rw [GK.num h, Bool.or_true]
/-- a word of a need: without the signs that part needs -/
def WOk (w : List Nat) : Prop := 58 ∉ w ∧ 59 ∉ w ∧ 32 ∉ w ∧ 44 ∉ w
inductive GNd : Nd → Prop
  | file {p : List Nat} {s : Sn} : pathOk p = true → WOk p → GSn s → (∀ b, s ≠ .b b) → GNd ⟨[fileL, p], s⟩
  | has {p : List Nat} {b : Bool} : pathOk p = true → WOk p → GNd ⟨[hasL, p], .b b⟩
  | lst {f p : List Nat} {n : Nat} : folderOk f = true → npOk p = true → WOk f → WOk p → GK n → GNd ⟨[lstL, f, p], .k n⟩
  | set {p : List Nat} {s : Sn} : idOk p = true → WOk p → GSn s → (∀ b, s ≠ .b b) → GNd ⟨[setL, p], s⟩
  | lnk {p : List Nat} {s : Sn} : pathOk p = true → WOk p → GSn s → (∀ b, s ≠ .b b) → GNd ⟨[lnkL, p], s⟩
theorem kinds_ok : WOk fileL ∧ WOk hasL ∧ WOk lstL ∧ WOk setL ∧ WOk lnkL := by unfold WOk; decide +kernel
theorem GNd.sn {d : Nd} (h : GNd d) : GSn d.sn := by
  cases h <;> first | assumption | exact trivial
theorem GNd.ws {d : Nd} (h : GNd d) : d.ws ≠ [] ∧ ∀ w ∈ d.ws, WOk w := by
  obtain ⟨k1, k2, k3, k4, k5⟩ := kinds_ok
  cases h with
  | file h1 h2 h3 h4 => exact ⟨by simp, fun w hw => by rcases List.mem_cons.mp hw with rfl | hw; exact k1; rcases List.mem_cons.mp hw with rfl | hw; exact h2; cases hw⟩
  | has h1 h2 => exact ⟨by simp, fun w hw => by rcases List.mem_cons.mp hw with rfl | hw; exact k2; rcases List.mem_cons.mp hw with rfl | hw; exact h2; cases hw⟩
  | lst h1 h2 h3 h4 h5 => exact ⟨by simp, fun w hw => by rcases List.mem_cons.mp hw with rfl | hw; exact k3; rcases List.mem_cons.mp hw with rfl | hw; exact h3; rcases List.mem_cons.mp hw with rfl | hw; exact h4; cases hw⟩
  | set h1 h2 h3 h4 => exact ⟨by simp, fun w hw => by rcases List.mem_cons.mp hw with rfl | hw; exact k4; rcases List.mem_cons.mp hw with rfl | hw; exact h2; cases hw⟩
  | lnk h1 h2 h3 h4 => exact ⟨by simp, fun w hw => by rcases List.mem_cons.mp hw with rfl | hw; exact k5; rcases List.mem_cons.mp hw with rfl | hw; exact h2; cases hw⟩
theorem GNd.items {d : Nd} (h : GNd d) {w : List Nat} (hw : w ∈ d.ws ++ [fmtSn d.sn]) {c : Nat} (hc : c = 58 ∨ c = 59 ∨ c = 32 ∨ c = 44) : c ∉ w := by
  rcases List.mem_append.mp hw with z | z
  · obtain ⟨h1, h2, h3, h4⟩ := h.ws.2 w z
    rcases hc with rfl | rfl | rfl | rfl
    · exact h1
    · exact h2
    · exact h3
    · exact h4
  · rw [List.mem_singleton.mp z]
    exact sn_free h.sn hc
theorem join_free {s c : Nat} (hs : s ≠ c) : ∀ {ps : List (List Nat)}, (∀ p ∈ ps, c ∉ p) → c ∉ TL.joinL [s] ps
  | [], _ => by simp [TL.joinL]
  | [p], h => by
    show c ∉ p
    exact h p List.mem_cons_self
  | p :: q :: r, h => by
    show c ∉ p ++ ([s] ++ TL.joinL [s] (q :: r))
    simp only [List.mem_append, List.mem_singleton, not_or]
    exact ⟨h p List.mem_cons_self, fun z => hs z.symm, join_free hs fun x hx => h x (List.mem_cons_of_mem _ hx)⟩
theorem GNd.free {d : Nd} (h : GNd d) {c : Nat} (hc : c = 59 ∨ c = 32 ∨ c = 44) : c ∉ fmtNd d := join_free (by omega) fun p hp => h.items hp (by omega)
theorem GNd.cut {d : Nd} (h : GNd d) : cut1 58 (fmtNd d) = d.ws ++ [fmtSn d.sn] := cut_join (by simp) fun p hp => h.items hp (.inl rfl)
theorem GNd.read {d : Nd} (h : GNd d) : readNd (fmtNd d) = d := by
  unfold readNd
  rw [h.cut, List.dropLast_concat]
  have e : (d.ws ++ [fmtSn d.sn]).getLastD [] = fmtSn d.sn := by simp
  rw [e, sn_read h.sn]
theorem GNd.need {d : Nd} (h : GNd d) : needOk (fmtNd d) = true := by
  unfold needOk
  rw [h.cut]
  cases h with
  | @file p s h1 h2 h3 h4 =>
    show needK fileL p (fmtSn s) (fmtSn s) 3 = true
    unfold needK
    rw [if_neg (by decide +kernel), if_neg (by simp), if_neg (by decide +kernel), if_neg (by decide +kernel)]
    show ((decide (fileL = fileL) || _) && (pathOk p && numOrNot (fmtSn s))) = true
    rw [decide_eq_true rfl, h1, sn_kn h3 h4]
    rfl
  | @has p b h1 h2 =>
    show needK hasL p (fmtSn (.b b)) (fmtSn (.b b)) 3 = true
    unfold needK
    rw [if_neg (by decide +kernel), if_neg (by simp), if_neg (by decide +kernel), if_pos rfl]
    show (pathOk p && (decide (fmtSn (.b b) = yesL) || decide (fmtSn (.b b) = nooL))) = true
    rw [h1]
    cases b <;> rfl
  | @lst f p n h1 h2 h3 h4 h5 =>
    show needK lstL f p (TL.numL n) 4 = true
    unfold needK
    rw [if_pos rfl]
    show (decide (4 = 4) && (folderOk f && (npOk p && isNum (TL.numL n)))) = true
    rw [h1, h2, GK.num h5]
    rfl
  | @set p s h1 h2 h3 h4 =>
    show needK setL p (fmtSn s) (fmtSn s) 3 = true
    unfold needK
    rw [if_neg (by decide +kernel), if_neg (by simp), if_pos rfl]
    show (idOk p && numOrNot (fmtSn s)) = true
    rw [h1, sn_kn h3 h4]
    rfl
  | @lnk p s h1 h2 h3 h4 =>
    show needK lnkL p (fmtSn s) (fmtSn s) 3 = true
    unfold needK
    rw [if_neg (by decide +kernel), if_neg (by simp), if_neg (by decide +kernel), if_neg (by decide +kernel)]
    show ((decide (lnkL = fileL) || decide (lnkL = lnkL)) && (pathOk p && numOrNot (fmtSn s))) = true
    rw [decide_eq_true (rfl : lnkL = lnkL), h1, sn_kn h3 h4, Bool.or_true]
    rfl
def questL (w : List Nat) : List Nat := TL.tl (Txt.rpartition (S w) (S [58])).1
theorem questS (w : List Nat) : (Txt.rpartition (S w) (S [58])).1 = S (questL w) := (S_tl _).symm
theorem GNd.quest {d : Nd} (h : GNd d) : questL (fmtNd d) = TL.joinL [58] d.ws := by
  have e : fmtNd d = TL.joinL [58] d.ws ++ 58 :: fmtSn d.sn := by
    unfold fmtNd
    rw [joinL_snoc _ _ h.ws.1]
    rfl
  unfold questL
  rw [e, rpart_some (sn_free h.sn (.inl rfl))]
structure GRc (r : Rc) : Prop where
  o1 : r.outs ≠ []
  o3 : r.outs.length ≤ 3
  on : r.outs.Nodup
  op : ∀ o ∈ r.outs, pathOk o = true ∧ 44 ∉ o ∧ 32 ∉ o
  kk : GK r.key
  n60 : r.needs.length ≤ 60
  nn : (r.needs.map fun d => TL.joinL [58] d.ws).Nodup
  nd : ∀ d ∈ r.needs, GNd d
  rl : r.res.length = r.outs.length
  rk : ∀ n ∈ r.res, GK n
theorem GRc.words {r : Rc} (g : GRc r) : cut1 32 (fmtRc r) = Kn.Rp.words r := by
  refine cut_join (by simp [Kn.Rp.words]) fun p hp => ?_
  have hn : ∀ n, 32 ∉ TL.numL n := fun n => TL.numL_free (by omega)
  simp only [Kn.Rp.words, List.mem_cons, List.not_mem_nil, or_false] at hp
  rcases hp with rfl | rfl | rfl | rfl
  · exact join_free (by decide) fun o ho => (g.op o ho).2.2
  · exact hn _
  · unfold fmtNds
    split
    · decide
    · refine join_free (by decide) fun p hp => ?_
      obtain ⟨d, hd, rfl⟩ := List.mem_map.mp hp
      exact (g.nd d hd).free (.inr (.inl rfl))
  · refine join_free (by decide) fun p hp => ?_
    obtain ⟨n, _, rfl⟩ := List.mem_map.mp hp
    exact hn n
theorem GRc.outs {r : Rc} (g : GRc r) : cut1 44 (TL.joinL [44] r.outs) = r.outs := cut_join g.o1 fun o ho => (g.op o ho).2.1
theorem GRc.res {r : Rc} (g : GRc r) : cut1 44 (TL.joinL [44] (r.res.map TL.numL)) = r.res.map TL.numL := by
  refine cut_join ?_ fun p hp => ?_
  · intro z
    have h1 := congrArg List.length z
    rw [List.length_map, g.rl] at h1
    exact g.o1 (List.length_eq_zero_iff.mp h1)
  · obtain ⟨n, _, rfl⟩ := List.mem_map.mp hp
    exact TL.numL_free (by omega)
/-- the words of the needs -/
def needW (w : List Nat) : List (List Nat) := if w = [45] then [] else cut1 59 w
theorem nd_not {d : Nd} (h : GNd d) : fmtNd d ≠ [45] := fun e => by
  have h1 := h.cut
  rw [e] at h1
  have h2 : cut1 58 [45] = [[45]] := by decide +kernel
  rw [h2] at h1
  have hl := congrArg List.length h1
  rw [List.length_append] at hl
  have h3 := List.length_pos_iff.mpr h.ws.1
  have hl2 : 1 = d.ws.length + 1 := hl
  omega
theorem GRc.needs {r : Rc} (g : GRc r) : needW (fmtNds r.needs) = r.needs.map fmtNd := by
  unfold needW fmtNds
  by_cases h0 : r.needs.length = 0
  · rw [if_pos h0, if_pos rfl, List.length_eq_zero_iff.mp h0]
    rfl
  · rw [if_neg h0]
    have hne : r.needs.map fmtNd ≠ [] := fun z => h0 (by have := congrArg List.length z; simpa using this)
    have hc : cut1 59 (TL.joinL [59] (r.needs.map fmtNd)) = r.needs.map fmtNd := cut_join hne fun p hp => by
      obtain ⟨d, hd, rfl⟩ := List.mem_map.mp hp
      exact (g.nd d hd).free (.inl rfl)
    rw [if_neg, hc]
    intro e
    rw [e] at hc
    have h2 : cut1 59 [45] = [[45]] := by decide +kernel
    rw [h2] at hc
    have hm : [45] ∈ r.needs.map fmtNd := by rw [← hc]; exact List.mem_singleton.mpr rfl
    obtain ⟨d, hd, z⟩ := List.mem_map.mp hm
    exact nd_not (g.nd d hd) z
theorem GRc.needs_ok {r : Rc} (g : GRc r) : needsOk (r.needs.map fmtNd) = true := by
  unfold needsOk
  rw [List.length_map, decide_eq_true g.n60, Bool.true_and, List.all_eq_true]
  intro w hw
  obtain ⟨d, hd, rfl⟩ := List.mem_map.mp hw
  exact (g.nd d hd).need
theorem GRc.quests {r : Rc} (g : GRc r) : ((r.needs.map fmtNd).map questL).Nodup := by
  have e : (r.needs.map fmtNd).map questL = r.needs.map fun d => TL.joinL [58] d.ws := by
    rw [List.map_map]
    exact List.map_congr_left fun d hd => (g.nd d hd).quest
  rw [e]
  exact g.nn
theorem GRc.outs_ok {r : Rc} (g : GRc r) : outsOk r.outs = true := by
  unfold outsOk
  rw [decide_eq_true g.o3, Bool.true_and, List.all_eq_true]
  exact fun o ho => (g.op o ho).1
theorem GRc.reads {r : Rc} (g : GRc r) : (r.needs.map fmtNd).map readNd = r.needs := by
  rw [List.map_map]
  have : ∀ l : List Nd, (∀ d ∈ l, GNd d) → l.map (readNd ∘ fmtNd) = l := fun l => by
    induction l with
    | nil => exact fun _ => rfl
    | cons d t ih =>
      intro h
      rw [List.map_cons, ih fun x hx => h x (List.mem_cons_of_mem _ hx)]
      show readNd (fmtNd d) :: t = _
      rw [(h d List.mem_cons_self).read]
  exact this _ g.nd
end Kn.Rp

/-! ### the records that the laws draw -/
namespace Kn.Rp
open PySem PySem.Spec PyProof.Rows L2 Evl SX Kn
def L37 : List Nat := (Str.ofString "abcdefghijklmnopqrstuvwxyz0123456789_").cps.toList
def nameN (n k : Nat) : List Nat := [L37.getD ((n + 7 * k) % 26) 0] ++ [L37.getD ((n / 3 + k) % 37) 0] ++ TL.numL (n % 97)
def pathN (n : Nat) : List Nat := TL.joinL [47] ((List.range (1 + n % 3)).map (nameN n))
def partsL : List (List Nat) := [[], [97], [10], [120, 32, 121], [126], [48], [114, 117, 108, 101, 115], [92], [92, 110]]
def textN (n : Nat) : List Nat := partsL.getD (n % 9) [] ++ TL.numL (n / 9 % 50)
def snN (n k : Nat) : Sn := if n % 5 = 0 then .no else .k (key (textN (n + k)))
def needN (n k : Nat) : Nd :=
  if n / 5 % 5 = 0 then ⟨[fileL, pathN n ++ TL.numL k], snN n k⟩
  else if n / 5 % 5 = 1 then ⟨[hasL, pathN n ++ TL.numL k], .b (decide (n % 2 = 0))⟩
  else if n / 5 % 5 = 2 then ⟨[lstL, [[], pathN n].getD (n % 2) [], [97, 42] ++ TL.numL k], .k (key (textN n))⟩
  else if n / 5 % 5 = 3 then ⟨[setL, [115] ++ TL.numL k], snN n k⟩
  else ⟨[lnkL, pathN n ++ TL.numL k], snN n k⟩
def outN (j k : Nat) : List Nat := [111, 117, 116] ++ TL.numL j ++ [120] ++ TL.numL k
def ruleN (m : Nat) : List Nat := [114, 117, 108, 101, 32] ++ TL.numL (m % 2)
def recN (ns : List Nat) (j : Nat) : Rc :=
  ⟨(List.range (1 + j % 3)).map (outN j), key (ruleN (ns.getD 11 0)), (List.range (ns.getD 0 0 % 5)).map fun k => needN (ns.getD (1 + k) 0) k, (List.range (1 + j % 3)).map fun k => key (textN (ns.getD (7 + k) 0))⟩
def wokB (w : List Nat) : Bool := w.all fun c => decide (c < 128) && !(decide (c = 58) || decide (c = 59) || decide (c = 32) || decide (c = 44))
theorem wok_of {w : List Nat} (h : wokB w = true) : WOk w ∧ ∀ c ∈ w, c < 128 := by
  unfold wokB at h
  rw [List.all_eq_true] at h
  have z : ∀ c ∈ w, c < 128 ∧ c ≠ 58 ∧ c ≠ 59 ∧ c ≠ 32 ∧ c ≠ 44 := fun c hc => by
    have := h c hc
    simp at this
    omega
  exact ⟨⟨fun hc => (z _ hc).2.1 rfl, fun hc => (z _ hc).2.2.1 rfl, fun hc => (z _ hc).2.2.2.1 rfl, fun hc => (z _ hc).2.2.2.2 rfl⟩, fun c hc => (z c hc).1⟩
theorem path_ok : ∀ n < 1000, (pathOk (pathN n) && wokB (pathN n) && decide ((pathN n).length ≤ 15) && (List.range 4).all fun k => pathOk (pathN n ++ TL.numL k)) = true := by decide +kernel
theorem small_ok : ∀ k < 4, (npOk ([97, 42] ++ TL.numL k) && wokB ([97, 42] ++ TL.numL k) && idOk ([115] ++ TL.numL k) && wokB ([115] ++ TL.numL k) && wokB (TL.numL k) && decide (TL.numL k = [48 + k])) = true := by decide +kernel
theorem text_ok : ∀ n < 1005, (decide (key (textN n) < 10 ^ 17) && (textN n).all fun c => decide (c < 128)) = true := by decide +kernel
theorem text_lt {n : Nat} (h : n < 1005) : key (textN n) < 10 ^ 17 ∧ ∀ c ∈ textN n, c < 128 := by
  have z := text_ok n h
  rw [Bool.and_eq_true, decide_eq_true_eq, List.all_eq_true] at z
  exact ⟨z.1, fun c hc => of_decide_eq_true (z.2 c hc)⟩
theorem text_gk {n : Nat} (h : n < 1005) : GK (key (textN n)) := ⟨key_pos _, Nat.lt_trans (text_lt h).1 (by decide +kernel)⟩
theorem text_len {n : Nat} (h : n < 1005) : (TL.numL (key (textN n))).length ≤ 17 := TL.numL_len (by decide) (text_lt h).1
theorem sn_gk {n k : Nat} (hn : n < 1000) (hk : k < 4) : GSn (snN n k) ∧ (∀ b, snN n k ≠ .b b) ∧ (fmtSn (snN n k)).length ≤ 17 := by
  unfold snN
  split
  · exact ⟨trivial, nofun, by decide⟩
  · exact ⟨text_gk (by omega), nofun, text_len (by omega)⟩
theorem app_wok {a b : List Nat} (ha : wokB a = true) (hb : wokB b = true) : wokB (a ++ b) = true := by
  unfold wokB at *
  rw [List.all_append, ha, hb]
  rfl
theorem need_good {n k : Nat} (hn : n < 1000) (hk : k < 4) : GNd (needN n k) := by
  have h1 := path_ok n hn
  rw [Bool.and_eq_true, Bool.and_eq_true, Bool.and_eq_true, List.all_eq_true] at h1
  obtain ⟨⟨⟨p1, p2⟩, p3⟩, p4⟩ := h1
  have p5 := p4 k (List.mem_range.mpr hk)
  have h2 := small_ok k hk
  simp only [Bool.and_eq_true] at h2
  obtain ⟨⟨⟨⟨⟨s1, s2⟩, s3⟩, s4⟩, s5⟩, s6⟩ := h2
  obtain ⟨g1, g2, g3⟩ := sn_gk hn hk
  have w1 := (wok_of (app_wok p2 s5)).1
  unfold needN
  split
  · exact .file p5 w1 g1 g2
  · split
    · exact .has p5 w1
    · split
      · refine .lst ?_ s1 ?_ (wok_of s2).1 (text_gk (by omega))
        · rcases Nat.mod_two_eq_zero_or_one n with z | z
          · rw [z]
            rfl
          · rw [z]
            show folderOk (pathN n) = true
            unfold folderOk
            rw [p1, Bool.or_true]
        · rcases Nat.mod_two_eq_zero_or_one n with z | z
          · rw [z]
            exact ⟨by simp, by simp, by simp, by simp⟩
          · rw [z]
            exact (wok_of p2).1
      · split
        · exact .set s3 (wok_of s4).1 g1 g2
        · exact .lnk p5 w1 g1 g2
theorem kind_len : fileL.length = 4 ∧ hasL.length = 3 ∧ lstL.length = 7 ∧ setL.length = 7 ∧ lnkL.length = 4 := by decide +kernel
theorem kind_128 : (∀ c ∈ fileL, c < 128) ∧ (∀ c ∈ hasL, c < 128) ∧ (∀ c ∈ lstL, c < 128) ∧ (∀ c ∈ setL, c < 128) ∧ (∀ c ∈ lnkL, c < 128) := by decide +kernel
theorem num_128 (n : Nat) : ∀ c ∈ TL.numL n, c < 128 := fun c hc => by
  have := TL.numL_digits n c hc
  omega
theorem sn_128 (s : Sn) : ∀ c ∈ fmtSn s, c < 128 := by
  cases s with
  | no => exact fun c hc => by rw [List.mem_singleton.mp hc]; decide
  | b x => cases x <;> (show ∀ c ∈ _, c < 128) <;> decide
  | k n => exact num_128 n
theorem join_lt {s : Nat} (hs : s < 128) : ∀ {ps : List (List Nat)}, (∀ p ∈ ps, ∀ c ∈ p, c < 128) → ∀ c ∈ TL.joinL [s] ps, c < 128
  | [], _ => fun c hc => by simp [TL.joinL] at hc
  | [p], h => fun c hc => h p List.mem_cons_self c hc
  | p :: q :: r, h => fun c hc => by
    have hc' : c ∈ p ++ ([s] ++ TL.joinL [s] (q :: r)) := hc
    rcases List.mem_append.mp hc' with z | z
    · exact h p List.mem_cons_self c z
    · rcases List.mem_append.mp z with z | z
      · rw [List.mem_singleton.mp z]
        exact hs
      · exact join_lt hs (fun x hx => h x (List.mem_cons_of_mem _ hx)) c z
theorem need_size {n k : Nat} (hn : n < 1000) (hk : k < 4) : (fmtNd (needN n k)).length ≤ 60 ∧ ∀ c ∈ fmtNd (needN n k), c < 128 := by
  have h1 := path_ok n hn
  rw [Bool.and_eq_true, Bool.and_eq_true, Bool.and_eq_true] at h1
  obtain ⟨⟨⟨_, p2⟩, p3⟩, _⟩ := h1
  have p3 := of_decide_eq_true p3
  have h2 := small_ok k hk
  simp only [Bool.and_eq_true] at h2
  obtain ⟨⟨⟨⟨⟨_, s2⟩, _⟩, s4⟩, s5⟩, s6⟩ := h2
  have e1 : (TL.numL k).length = 1 := by rw [of_decide_eq_true s6]; rfl
  obtain ⟨k1, k2, k3, k4, k5⟩ := kind_len
  obtain ⟨c1, c2, c3, c4, c5⟩ := kind_128
  obtain ⟨g1, g2, g3⟩ := sn_gk hn hk
  have tl := text_len (n := n) (by omega)
  have q := (wok_of p2).2
  have q2 := (wok_of (app_wok p2 s5)).2
  have two : ∀ (a b c : List Nat), (TL.joinL [58] [a, b, c]).length = a.length + b.length + c.length + 2 := fun a b c => by
    show (a ++ ([58] ++ (b ++ ([58] ++ c)))).length = _
    simp only [List.length_append, List.length_cons, List.length_nil]
    omega
  have three : ∀ (a b c d : List Nat), (TL.joinL [58] [a, b, c, d]).length = a.length + b.length + c.length + d.length + 3 := fun a b c d => by
    show (a ++ ([58] ++ (b ++ ([58] ++ (c ++ ([58] ++ d)))))).length = _
    simp only [List.length_append, List.length_cons, List.length_nil]
    omega
  have l1 : (pathN n ++ TL.numL k).length ≤ 16 := by rw [List.length_append]; omega
  unfold needN
  split
  · refine ⟨?_, join_lt (by decide) fun p hp => ?_⟩
    · show (TL.joinL [58] [fileL, pathN n ++ TL.numL k, fmtSn (snN n k)]).length ≤ 60
      rw [two]
      omega
    · have hp' : p ∈ [fileL, pathN n ++ TL.numL k, fmtSn (snN n k)] := hp
      simp only [List.mem_cons, List.not_mem_nil, or_false] at hp'
      rcases hp' with rfl | rfl | rfl
      · exact c1
      · exact q2
      · exact sn_128 _
  · split
    · refine ⟨?_, join_lt (by decide) fun p hp => ?_⟩
      · show (TL.joinL [58] [hasL, pathN n ++ TL.numL k, fmtSn (.b (decide (n % 2 = 0)))]).length ≤ 60
        rw [two]
        have : (fmtSn (.b (decide (n % 2 = 0)))).length ≤ 3 := by cases decide (n % 2 = 0) <;> decide
        omega
      · have hp' : p ∈ [hasL, pathN n ++ TL.numL k, fmtSn (.b (decide (n % 2 = 0)))] := hp
        simp only [List.mem_cons, List.not_mem_nil, or_false] at hp'
        rcases hp' with rfl | rfl | rfl
        · exact c2
        · exact q2
        · exact sn_128 _
    · split
      · have hd : ([[], pathN n].getD (n % 2) []).length ≤ 15 ∧ ∀ c ∈ [[], pathN n].getD (n % 2) [], c < 128 := by
          rcases Nat.mod_two_eq_zero_or_one n with z | z
          · rw [z]
            exact ⟨Nat.zero_le _, fun c hc => nomatch hc⟩
          · rw [z]
            exact ⟨p3, q⟩
        refine ⟨?_, join_lt (by decide) fun p hp => ?_⟩
        · show (TL.joinL [58] [lstL, [[], pathN n].getD (n % 2) [], [97, 42] ++ TL.numL k, TL.numL (key (textN n))]).length ≤ 60
          rw [three, List.length_append, e1]
          show _ + _ + (2 + 1) + _ + 3 ≤ 60
          omega
        · have hp' : p ∈ [lstL, [[], pathN n].getD (n % 2) [], [97, 42] ++ TL.numL k, TL.numL (key (textN n))] := hp
          simp only [List.mem_cons, List.not_mem_nil, or_false] at hp'
          rcases hp' with rfl | rfl | rfl | rfl
          · exact c3
          · exact hd.2
          · exact (wok_of s2).2
          · exact num_128 _
      · split
        · refine ⟨?_, join_lt (by decide) fun p hp => ?_⟩
          · show (TL.joinL [58] [setL, [115] ++ TL.numL k, fmtSn (snN n k)]).length ≤ 60
            rw [two, List.length_append, e1]
            show _ + (1 + 1) + _ + 2 ≤ 60
            omega
          · have hp' : p ∈ [setL, [115] ++ TL.numL k, fmtSn (snN n k)] := hp
            simp only [List.mem_cons, List.not_mem_nil, or_false] at hp'
            rcases hp' with rfl | rfl | rfl
            · exact c4
            · exact (wok_of s4).2
            · exact sn_128 _
        · refine ⟨?_, join_lt (by decide) fun p hp => ?_⟩
          · show (TL.joinL [58] [lnkL, pathN n ++ TL.numL k, fmtSn (snN n k)]).length ≤ 60
            rw [two]
            omega
          · have hp' : p ∈ [lnkL, pathN n ++ TL.numL k, fmtSn (snN n k)] := hp
            simp only [List.mem_cons, List.not_mem_nil, or_false] at hp'
            rcases hp' with rfl | rfl | rfl
            · exact c5
            · exact q2
            · exact sn_128 _
theorem app_last {a b : List Nat} (hb : b ≠ []) : (a ++ b).getLast? = b.getLast? := by
  rw [List.getLast?_append]
  cases h : b.getLast? with
  | none => exact absurd (List.getLast?_eq_none_iff.mp h) hb
  | some x => rfl
theorem last_join (a b : List Nat) (hb : b ≠ []) : (TL.joinL [58] [a, b]).getLast? = b.getLast? := by
  show (a ++ ([58] ++ b)).getLast? = _
  rw [← List.append_assoc, app_last hb]
theorem last_join3 (a b c : List Nat) (hc : c ≠ []) : (TL.joinL [58] [a, b, c]).getLast? = c.getLast? := by
  show (a ++ ([58] ++ (b ++ ([58] ++ c)))).getLast? = _
  rw [← List.append_assoc, ← List.append_assoc, ← List.append_assoc, app_last hc]
theorem quest_last {n k : Nat} (hk : k < 4) : (TL.joinL [58] (needN n k).ws).getLast? = some (48 + k) := by
  have h2 := small_ok k hk
  simp only [Bool.and_eq_true] at h2
  have e : TL.numL k = [48 + k] := of_decide_eq_true h2.2
  have ap : ∀ a : List Nat, (a ++ [48 + k]) ≠ [] ∧ (a ++ [48 + k]).getLast? = some (48 + k) := fun a => ⟨by simp, by simp⟩
  unfold needN
  rw [e]
  split
  · exact (last_join _ _ (ap _).1).trans (ap _).2
  · split
    · exact (last_join _ _ (ap _).1).trans (ap _).2
    · split
      · exact (last_join3 _ _ _ (ap _).1).trans (ap _).2
      · split
        · exact (last_join _ _ (ap _).1).trans (ap _).2
        · exact (last_join _ _ (ap _).1).trans (ap _).2
theorem outs_ok : ∀ j < 60, (((List.range (1 + j % 3)).map (outN j)).all (fun o => pathOk o && wokB o && decide (o.length ≤ 12)) && decide ((List.range (1 + j % 3)).map (outN j)).Nodup) = true := by decide +kernel
theorem rule_ok : ∀ m < 2, GK (key (ruleN m)) ∧ key (ruleN m) < 10 ^ 17 := by
  unfold GK
  decide +kernel
theorem rule_mod (m : Nat) : ruleN m = ruleN (m % 2) := by
  unfold ruleN
  rw [Nat.mod_mod]
theorem nodup_range {β : Type} {f : Nat → β} : ∀ n : Nat, (∀ i < n, ∀ j < n, f i = f j → i = j) → ((List.range n).map f).Nodup := fun n h =>
  List.pairwise_map.mpr ((List.nodup_range (n := n)).imp_of_mem fun ha hb hne z => hne (h _ (List.mem_range.mp ha) _ (List.mem_range.mp hb) z))
theorem sum_le {n b : Nat} {f : Nat → List Nat} (h : ∀ k < n, (f k).length ≤ b) : (((List.range n).map f).map (·.length)).sum ≤ n * b := by
  induction n with
  | zero => simp
  | succ n ih =>
    rw [List.range_succ, List.map_append, List.map_append, List.sum_append, Nat.succ_mul]
    have := ih fun k hk => h k (by omega)
    have := h n (by omega)
    show _ + ((f n).length + 0) ≤ _
    omega
theorem joinL_le (s : Nat) : ∀ (ps : List (List Nat)), (TL.joinL [s] ps).length ≤ (ps.map (·.length)).sum + ps.length
  | [] => Nat.le_refl _
  | [p] => by
    show p.length ≤ (p.length + 0) + 1
    omega
  | p :: q :: r => by
    have ih := joinL_le s (q :: r)
    show (p ++ ([s] ++ TL.joinL [s] (q :: r))).length ≤ _
    rw [List.length_append, List.length_append, List.map_cons, List.sum_cons, List.length_cons (a := p)]
    show p.length + (1 + _) ≤ _
    omega
theorem rec_good {ns : List Nat} {j : Nat} (hn : ∀ i, ns.getD i 0 < 1000) (hj : j < 60) : GRc (recN ns j) ∧ ((fmtRc (recN ns j)).length ≤ 600 ∧ ∀ c ∈ fmtRc (recN ns j), c < 128) := by
  have ho := outs_ok j hj
  rw [Bool.and_eq_true, List.all_eq_true, decide_eq_true_eq] at ho
  obtain ⟨ho, hnd⟩ := ho
  have ho' : ∀ o ∈ (recN ns j).outs, pathOk o = true ∧ wokB o = true ∧ o.length ≤ 12 := fun o h => by
    have := ho o h
    simp only [Bool.and_eq_true, decide_eq_true_eq] at this
    exact ⟨this.1.1, this.1.2, this.2⟩
  have hr := rule_ok (ns.getD 11 0 % 2) (Nat.mod_lt _ (by decide))
  rw [← rule_mod] at hr
  have h3 : 1 + j % 3 ≤ 3 := by omega
  have h5 : ns.getD 0 0 % 5 ≤ 4 := by omega
  have hks : ∀ k, k < ns.getD 0 0 % 5 → k < 4 := fun k hk => by omega
  have g : GRc (recN ns j) := by
    refine ⟨?_, ?_, hnd, fun o h => ?_, hr.1, ?_, ?_, fun d hd => ?_, ?_, fun n h => ?_⟩
    · intro z
      have := congrArg List.length z
      rw [show (recN ns j).outs = (List.range (1 + j % 3)).map (outN j) from rfl, List.length_map, List.length_range] at this
      simp at this
    · show ((List.range (1 + j % 3)).map (outN j)).length ≤ 3
      rw [List.length_map, List.length_range]
      exact h3
    · obtain ⟨h1, h2, _⟩ := ho' o h
      have := (wok_of h2).1
      exact ⟨h1, this.2.2.2, this.2.2.1⟩
    · show ((List.range (ns.getD 0 0 % 5)).map _).length ≤ 60
      rw [List.length_map, List.length_range]
      omega
    · show (((List.range (ns.getD 0 0 % 5)).map fun k => needN (ns.getD (1 + k) 0) k).map fun d => TL.joinL [58] d.ws).Nodup
      rw [List.map_map]
      refine nodup_range _ fun a ha b hb z => ?_
      have e1 := quest_last (n := ns.getD (1 + a) 0) (hks a ha)
      have e2 := quest_last (n := ns.getD (1 + b) 0) (hks b hb)
      have z' : TL.joinL [58] (needN (ns.getD (1 + a) 0) a).ws = TL.joinL [58] (needN (ns.getD (1 + b) 0) b).ws := z
      rw [z', e2] at e1
      have := Option.some.inj e1
      omega
    · obtain ⟨k, hk, rfl⟩ := List.mem_map.mp hd
      exact need_good (hn _) (hks k (List.mem_range.mp hk))
    · show ((List.range (1 + j % 3)).map _).length = ((List.range (1 + j % 3)).map (outN j)).length
      rw [List.length_map, List.length_map]
    · obtain ⟨k, hk, rfl⟩ := List.mem_map.mp h
      exact text_gk (by have := hn (7 + k); omega)
  refine ⟨g, ?_, ?_⟩
  · have l1 : (TL.joinL [44] (recN ns j).outs).length ≤ 39 := by
      have h1 := joinL_le 44 (recN ns j).outs
      have h2 : (((recN ns j).outs).map (·.length)).sum ≤ (1 + j % 3) * 12 := sum_le (n := 1 + j % 3) (b := 12) (f := outN j) fun k hk => (ho' (outN j k) (List.mem_map.mpr ⟨k, List.mem_range.mpr hk, rfl⟩)).2.2
      have h4 : ((recN ns j).outs).length = 1 + j % 3 := by
        show ((List.range (1 + j % 3)).map (outN j)).length = _
        rw [List.length_map, List.length_range]
      omega
    have l2 : (TL.numL (recN ns j).key).length ≤ 17 := TL.numL_len (by decide) hr.2
    have l3 : (fmtNds (recN ns j).needs).length ≤ 244 := by
      unfold fmtNds
      split
      · decide
      · have h1 := joinL_le 59 ((recN ns j).needs.map fmtNd)
        have e : (recN ns j).needs.map fmtNd = (List.range (ns.getD 0 0 % 5)).map fun k => fmtNd (needN (ns.getD (1 + k) 0) k) := List.map_map ..
        have h2 : (((recN ns j).needs.map fmtNd).map (·.length)).sum ≤ (ns.getD 0 0 % 5) * 60 := by
          rw [e]
          exact sum_le fun k hk => (need_size (hn _) (hks k hk)).1
        have h4 : ((recN ns j).needs.map fmtNd).length = ns.getD 0 0 % 5 := by rw [e, List.length_map, List.length_range]
        omega
    have l4 : (TL.joinL [44] ((recN ns j).res.map TL.numL)).length ≤ 54 := by
      have h1 := joinL_le 44 ((recN ns j).res.map TL.numL)
      have e : (recN ns j).res.map TL.numL = (List.range (1 + j % 3)).map fun k => TL.numL (key (textN (ns.getD (7 + k) 0))) := List.map_map ..
      have h2 : (((recN ns j).res.map TL.numL).map (·.length)).sum ≤ (1 + j % 3) * 17 := by
        rw [e]
        exact sum_le fun k hk => text_len (by have := hn (7 + k); omega)
      have h4 : ((recN ns j).res.map TL.numL).length = 1 + j % 3 := by rw [e, List.length_map, List.length_range]
      omega
    have h := joinL_le 32 (words (recN ns j))
    have e : ((words (recN ns j)).map (·.length)).sum = (TL.joinL [44] (recN ns j).outs).length + ((TL.numL (recN ns j).key).length + ((fmtNds (recN ns j).needs).length + ((TL.joinL [44] ((recN ns j).res.map TL.numL)).length + 0))) := rfl
    have e4 : (words (recN ns j)).length = 4 := rfl
    show (TL.joinL [32] (words (recN ns j))).length ≤ 600
    omega
  · refine join_lt (by decide) fun p hp => ?_
    simp only [words, List.mem_cons, List.not_mem_nil, or_false] at hp
    rcases hp with rfl | rfl | rfl | rfl
    · exact join_lt (by decide) fun o ho2 => (wok_of (ho' o ho2).2.1).2
    · exact num_128 _
    · unfold fmtNds
      split
      · decide
      · refine join_lt (by decide) fun p hp => ?_
        obtain ⟨d, hd, rfl⟩ := List.mem_map.mp hp
        obtain ⟨k, hk, rfl⟩ := List.mem_map.mp hd
        exact (need_size (hn _) (hks k (List.mem_range.mp hk))).2
    · refine join_lt (by decide) fun p hp => ?_
      obtain ⟨n, _, rfl⟩ := List.mem_map.mp hp
      exact num_128 n
end Kn.Rp

/-! Kg: dicts with text keys that may be locked, sorted texts, pop, dict comprehensions, graphs. -/
namespace Kn
open PySem PySem.Spec PyProof.Rows L2 Evl SX
/-! ### sorted texts -/
theorem pw_rising : ∀ (r : List Str) (x : Str), List.Pairwise leS (x :: r) → risingS x r = true
  | [], _, _ => rfl
  | y :: r, x, h => by
    obtain ⟨h1, h2⟩ := List.pairwise_cons.mp h
    show (!ltCps y.cps.toList x.cps.toList && risingS y r) = true
    rw [pw_rising r y h2, Bool.and_true, PyProof.Rows.ltCps_eq]
    have hle : x.cps.toList ≤ y.cps.toList := h1 y List.mem_cons_self
    rw [Bool.not_eq_true', decide_eq_false_iff_not]
    exact fun z => hle z
theorem pw_sorted {l : List Str} (h : List.Pairwise leS l) : sortedS l = true := by
  cases l with
  | nil => rfl
  | cons x r => exact pw_rising r x h
/-- a rising list without repetitions of just these texts -/
structure Srt (ys : List Str) (p : Str → Prop) : Prop where
  s : sortedS ys = true
  n : ys.Nodup
  m : ∀ x, x ∈ ys ↔ p x
theorem nodup_perm {α : Type} [DecidableEq α] {l m : List α} (h1 : l.Nodup) (h2 : m.Nodup) (h : ∀ x, x ∈ l ↔ x ∈ m) : l.Perm m :=
  (List.perm_ext_iff_of_nodup h1 h2).mpr h
theorem Srt.uniq {ys zs : List Str} {p q : Str → Prop} (a : Srt ys p) (b : Srt zs q) (h : ∀ x, p x ↔ q x) : ys = zs :=
  sorted_uniq a.s b.s (nodup_perm a.n b.n fun x => ((a.m x).trans (h x)).trans (b.m x).symm)
theorem Srt.filter {ys : List Str} {p : Str → Prop} (a : Srt ys p) (f : Str → Bool) : Srt (ys.filter f) (fun x => p x ∧ f x = true) :=
  ⟨pw_sorted ((sorted_pw a.s).sublist List.filter_sublist), a.n.sublist List.filter_sublist, fun x => by rw [List.mem_filter, a.m x]⟩
theorem Srt.of {ks ys : List Str} {p : Str → Prop} (hn : ks.Nodup) (hm : ∀ x, x ∈ ks ↔ p x) (h : ys.Perm ks) (hs : sortedS ys = true) : Srt ys p :=
  ⟨hs, h.nodup_iff.mpr hn, fun x => h.mem_iff.trans (hm x)⟩
theorem leS_total (a b : Str) : leS a b ∨ leS b a := List.le_total _ _
theorem srt_ex (ks : List Str) : ∃ ys : List Str, ys.Perm ks ∧ sortedS ys = true := by
  have hp := List.pairwise_mergeSort (le := fun a b : Str => decide (a.cps.toList ≤ b.cps.toList)) (fun a b c h1 h2 => decide_eq_true (List.le_trans (of_decide_eq_true h1) (of_decide_eq_true h2))) (fun a b => by
      rcases leS_total a b with h | h
      · have h' : a.cps.toList ≤ b.cps.toList := h
        rw [Bool.or_eq_true]
        exact .inl (decide_eq_true h')
      · have h' : b.cps.toList ≤ a.cps.toList := h
        rw [Bool.or_eq_true]
        exact .inr (decide_eq_true h')) ks
  exact ⟨_, List.mergeSort_perm _ _, pw_sorted (hp.imp fun {a b} h => of_decide_eq_true (p := a.cps.toList ≤ b.cps.toList) h)⟩
noncomputable def srtS (ks : List Str) : List Str := Classical.choose (srt_ex ks)
theorem srt_perm (ks : List Str) : (srtS ks).Perm ks := (Classical.choose_spec (srt_ex ks)).1
theorem srt_s (ks : List Str) : sortedS (srtS ks) = true := (Classical.choose_spec (srt_ex ks)).2
theorem srt_eq {ks ys : List Str} (h : ys.Perm ks) (hs : sortedS ys = true) : ys = srtS ks := sorted_uniq hs (srt_s ks) (h.trans (srt_perm ks).symm)
theorem Srt.srt {ks : List Str} {p : Str → Prop} (hn : ks.Nodup) (hm : ∀ x, x ∈ ks ↔ p x) : Srt (srtS ks) p := Srt.of hn hm (srt_perm ks) (srt_s ks)
theorem Srt.head {x : Str} {r : List Str} {p : Str → Prop} (a : Srt (x :: r) p) : p x := (a.m x).mp List.mem_cons_self

/-! ### dicts, locked or not -/
section
variable {K : PySem.W.Frag} {σ : L2.St} {H H' : Hp} {ta tb td ty te tc tv tx tf : TE} {t u : TT} {x y z v : V} {D : Ends} {tu tw tz : TS} {d p : Addr} {kvs : List (Key × V)} {k : Str}
theorem dget_rd (h : Rd H d (.dK kvs)) : DGet H d (.str k) (valV kvs (Sum.inr k)) := .inl ⟨kvs, Sum.inr k, h, rfl, rfl⟩
theorem ev_dgetS (h1 : Ev td σ H (.ref d)) (h2 : Ev ty σ H (.str k)) (hd : Rd H d (.dK kvs)) (hv : valV kvs (Sum.inr k) = some v) : Ev (tDGet td ty) σ H v := fun H1 e Q q =>
  h1 H1 e _ fun H2 e2 => h2 H2 (e.trans e2) _ fun H3 e3 => ⟨d, v, rfl, by
    have g := dget_rd (k := k) (ex_rd ((e.trans e2).trans e3) hd)
    rw [hv] at g
    exact g, q H3 (e2.trans e3)⟩
/-- d.get(k, ()) where k is there -/
theorem ev_dget2U {xs : List V} (h1 : Ev td σ H (.ref d)) (h2 : Ev ty σ H (.str k)) (hx : EvU tx σ H xs) (hd : Rd H d (.dK kvs)) (hv : valV kvs (Sum.inr k) = some v) : Ev (tDGet2 td ty tx) σ H v := fun H1 e Q q =>
  h1 H1 e _ fun H2 e2 => ⟨d, rfl, .inl ⟨kvs, ex_rd (e.trans e2) hd⟩, h2 H2 (e.trans e2) _ fun H3 e3 => hx H3 ((e.trans e2).trans e3) _ fun p H4 _ e4 _ => ⟨some v, by
    have g := dget_rd (k := k) (ex_rd (((e.trans e2).trans e3).trans e4) hd)
    rw [hv] at g
    exact g, q H4 ((e2.trans e3).trans e4)⟩⟩
theorem ev_dinS (h2 : Ev ty σ H (.str k)) (h1 : Ev td σ H (.ref d)) (hd : Rd H d (.dK kvs)) : Ev (tDIn ty td) σ H (.bl (valV kvs (Sum.inr k)).isSome) := fun H1 e Q q =>
  h2 H1 e _ fun H2 e2 => h1 H2 (e.trans e2) _ fun H3 e3 => ⟨d, _, rfl, dget_rd (ex_rd ((e.trans e2).trans e3) hd), q H3 (e2.trans e3)⟩
theorem ev_dninS (h2 : Ev ty σ H (.str k)) (h1 : Ev td σ H (.ref d)) (hd : Rd H d (.dK kvs)) : Ev (tDNotIn ty td) σ H (.bl (!(valV kvs (Sum.inr k)).isSome)) := fun H1 e Q q =>
  h2 H1 e _ fun H2 e2 => h1 H2 (e.trans e2) _ fun H3 e3 => ⟨d, _, rfl, dget_rd (ex_rd ((e.trans e2).trans e3) hd), q H3 (e2.trans e3)⟩
theorem s_dputS (hv : Ev tv σ H v) (h1 : ∀ H1, Ex H H1 → Ev td σ H1 (.ref d)) (h2 : ∀ H1, Ex H H1 → Ev ty σ H1 (.str k)) (hd : H d = some (.dK kvs)) (hl : kvs.length < 100000) (q : ∀ H1, Ex H H1 → D.nx σ (upd H1 d (.dK (putK kvs (Sum.inr k) v)))) : sDPut td ty tv D σ H :=
  hv H (Ex.refl H) _ fun H1 e1 => h1 H1 e1 H1 (Ex.refl H1) _ fun H2 e2 => h2 H2 (e1.trans e2) H2 (Ex.refl H2) _ fun H3 e3 => ⟨d, _, rfl, DPut.k (k := (Sum.inr k : Key)) (((e1.trans e2).trans e3) _ _ hd) (sz_lt hl), q H3 ((e1.trans e2).trans e3)⟩
theorem q_dputS (hv : Ev tv σ H v) (h1 : ∀ H1, Ex H H1 → Ev td σ H1 (.ref d)) (h2 : ∀ H1, Ex H H1 → Ev ty σ H1 (.str k)) (hd : H d = some (.dK kvs)) (hl : kvs.length < 100000) (q : ∀ H1, Ex H H1 → tz D σ (upd H1 d (.dK (putK kvs (Sum.inr k) v)))) : tSeq (sDPut td ty tv) tz D σ H :=
  s_dputS (D := { D with nx := tz D }) hv h1 h2 hd hl q
/-- d[k] = a new list -/
theorem s_dputL {xs : List V} (hv : EvL tv σ H xs) (h1 : ∀ H1, Ex H H1 → Ev td σ H1 (.ref d)) (h2 : ∀ H1, Ex H H1 → Ev ty σ H1 (.str k)) (hd : H d = some (.dK kvs)) (hl : kvs.length < 100000)
    (q : ∀ r H1, H r = none → Ex H H1 → H1 r = some (.lst xs) → D.nx σ (upd H1 d (.dK (putK kvs (Sum.inr k) (.ref r))))) : sDPut td ty tv D σ H :=
  hv H (Ex.refl H) _ fun r H1 nr e1 hr => h1 H1 e1 H1 (Ex.refl H1) _ fun H2 e2 => h2 H2 (e1.trans e2) H2 (Ex.refl H2) _ fun H3 e3 => ⟨d, _, rfl, DPut.k (k := (Sum.inr k : Key)) (((e1.trans e2).trans e3) _ _ hd) (sz_lt hl), q r H3 nr ((e1.trans e2).trans e3) (e3 _ _ (e2 _ _ hr))⟩
theorem q_dputL {xs : List V} (hv : EvL tv σ H xs) (h1 : ∀ H1, Ex H H1 → Ev td σ H1 (.ref d)) (h2 : ∀ H1, Ex H H1 → Ev ty σ H1 (.str k)) (hd : H d = some (.dK kvs)) (hl : kvs.length < 100000)
    (q : ∀ r H1, H r = none → Ex H H1 → H1 r = some (.lst xs) → tz D σ (upd H1 d (.dK (putK kvs (Sum.inr k) (.ref r))))) : tSeq (sDPut td ty tv) tz D σ H :=
  s_dputL (D := { D with nx := tz D }) hv h1 h2 hd hl q
/-- x = l.pop() -/
theorem q_pop {i : Nat} {l : Addr} {xs : List V} (ha : Ev ta σ H (.ref l)) (hl : H l = some (.lst xs)) (hx : xs[xs.length - 1]? = some v) (k : ∀ H1, Ex H H1 → tz D (σ.set i (some v)) (upd H1 l (.lst xs.dropLast))) :
    tSeq (tAsg (tBM0 K "list" rPop ta) (gName i)) tz D σ H := ha H (Ex.refl H) _ fun H1 e1 => ⟨Or.inl ⟨rfl, xs, sq_of (e1 _ _ hl)⟩, l, xs, v, rfl, rfl, e1 _ _ hl, hx, k H1 e1⟩
/-- sorted(d), sorted(l) of any size, as a new list -/
theorem el_sortedD {ks : List Str} (ha : Ev ta σ H (.ref d)) (hd : Rd H d (.dK kvs)) (hk : kvs.map (·.1) = ks.map Sum.inr) (hn : ks.length ≤ 100000) : EvL (tCB (rSortDA K) (tCons ta tNil)) σ H ((srtS ks).map V.str) := fun H1 e Q q =>
  ha H1 e _ fun H2 e2 => ⟨d, kvs, ks, rfl, ex_rd (e.trans e2) hd, hk, hn, fun ys p hp hs hnew => by
    rw [srt_eq hp hs]
    exact q p _ (fresh_back e2 hnew) (e2.trans (Ex.new hnew)) upd_same⟩
def rSortL (K : PySem.W.Frag) : List V → Hp → VK → Prop := fun vs H Q => ∃ (a : Addr) (xs : List Str), vs = [V.ref a] ∧ SqL K H a (xs.map V.str) ∧ xs.length < 64 ∧ ∀ (ys : List Str) (p : Addr), ys.Perm xs → sortedS ys = true → H p = none → Q (.ref p) (upd H p (.lst (ys.map V.str)))
theorem cr_sortL {X : Cx} : CallR X (.builtin "sorted") (rSortL X.K) := cr_sortedS
theorem el_sortedL {xs : List Str} (ha : Ev ta σ H (.ref p)) (hp : SqL K H p (xs.map V.str)) (hn : xs.length < 64) : EvL (tCB (rSortL K) (tCons ta tNil)) σ H ((srtS xs).map V.str) := fun H1 e Q q =>
  ha H1 e _ fun H2 e2 => ⟨p, xs, rfl, ex_l (e.trans e2) hp, hn, fun ys p hp hs hnew => by
    rw [srt_eq hp hs]
    exact q p _ (fresh_back e2 hnew) (e2.trans (Ex.new hnew)) upd_same⟩
end
/-! ### comprehensions whose elements are new objects -/
/-- H5 has what H4 has of the base H, and what is new behind H1 -/
def Sub5 (H H1 H4 H5 : Hp) : Prop := ∀ a o, H4 a = some o → (H a = some o ∨ H1 a = none) → H5 a = some o
def EvF (te : TE) (σ : L2.St) (B H : Hp) (P : V → Hp → Prop) : Prop := ∀ H1, Ex H H1 → ∀ Q : VK, (∀ v H4, Ex H1 H4 → (∀ H5, Sub5 B H1 H4 H5 → P v H5) → Q v H4) → te σ H1 Q
/-- the heap without d -/
def less (H : Hp) (d : Addr) : Hp := fun a => if a = d then none else H a
theorem less_ne {H : Hp} {d a : Addr} (h : a ≠ d) : less H d a = H a := if_neg h
theorem less_same {H : Hp} {d : Addr} : less H d d = none := if_pos rfl
theorem less_ex {H : Hp} {d : Addr} : Ex (less H d) H := fun a o h => by
  by_cases ha : a = d
  · rw [ha, less_same] at h
    cases h
  · rw [less_ne ha] at h
    exact h
theorem less_upd {H : Hp} {d : Addr} {o : HO} : less (upd H d o) d = less H d := funext fun a => by
  by_cases ha : a = d
  · rw [ha, less_same, less_same]
  · rw [less_ne ha, less_ne ha, upd_ne ha]
theorem less_mono {H H1 : Hp} {d : Addr} (e : Ex H H1) : Ex (less H d) (less H1 d) := fun a o h => by
  by_cases ha : a = d
  · rw [ha, less_same] at h
    cases h
  · rw [less_ne ha] at h ⊢
    exact e _ _ h
def Mo (P : Nat → V → Hp → Prop) : Prop := ∀ i v H1 H2, Ex H1 H2 → P i v H1 → P i v H2
section
variable {K : PySem.W.Frag} {σ : L2.St} {H H' : Hp} {ta tb td ty te tc tv tx tf tk tl : TE} {D : Ends} {d p : Addr} {kvs : List (Key × V)} {P : Nat → V → Hp → Prop}
/-- [e for x in d]: d locked -/
theorem lc_keysF {j : Nat} {vs : List Nat} (hP : Mo P) (h1 : ∀ H1, Ev td σ H1 (.ref d)) (hd : H d = some (.dK kvs)) (hz : kvs.length ≤ 40000) (hw : ∀ x, wipe ((wipe σ vs).set j (some x)) vs = wipe σ vs)
    (he : ∀ (i : Nat) (kv : Key × V) (H1 : Hp) (od : Obj), Ex (less H d) H1 → H1 d = some (.frz od (.dK kvs)) → kvs[i]? = some kv → EvF te ((wipe σ vs).set j (some (kV kv.1))) (less H d) H1 (P i)) :
    ∀ H0, Ex H H0 → ∀ Q : VK, (∀ p H2 (ys : List V), H0 p = none → Ex H0 H2 → H2 p = some (.lst ys) → ys.length = kvs.length → (∀ i v, ys[i]? = some v → P i v (less H2 p)) → Q (.ref p) H2) → tLockE (tLc (iKeys td) (gName j) tYes te vs) σ H0 Q := by
  intro H0 e0 Q k
  have hd0 := e0 _ _ hd
  refine ⟨d, .dK kvs, hd0, trivial, fun od => ?_⟩
  refine h1 _ _ (Ex.refl _) _ fun H1 e1 => ⟨d, od, rfl, .inl ⟨kvs, e1 _ _ upd_same, fun Dl hD => ?_⟩⟩
  have dn : H1 d = some (.frz od (.dK kvs)) := e1 _ _ upd_same
  have ne : Dl ≠ d := fun z => by rw [z] at hD; rw [hD] at dn; cases dn
  have exb : Ex (less H d) H1 := fun a o h => by
    by_cases ha : a = d
    · rw [ha, less_same] at h
      cases h
    · rw [less_ne ha] at h
      exact e1 _ _ (by rw [upd_ne ha]; exact e0 _ _ h)
  refine lc_it walk_keys (fun i H' => Ex H1 H' ∧ ∃ ys : List V, H' Dl = some (.lst ys) ∧ ys.length = i ∧ ∀ j v, ys[j]? = some v → P j v (less (less H' Dl) d)) ⟨Ex.new hD, [], upd_same, rfl, fun j v h => by simp at h⟩ (fun i H2 _ q => q.1 _ _ dn) (fun i x H2 H3 hi q y => ?_) (fun H2 q => ?_)
  · obtain ⟨rfl, ky, vv, hy, rfl⟩ := y
    obtain ⟨e2, ys, hl, hlen, hp⟩ := q
    refine ⟨hw _, ?_⟩
    show te _ _ fun y H4 => ∃ acc, _
    refine he i (ky, vv) H1 od exb dn hy _ e2 _ fun v H4 e4 hv => ?_
    have hl4 : H4 Dl = some (.lst ys) := e4 _ _ hl
    refine ⟨ys, hl4, sz_lt (by omega), Ex.mut (e2.trans e4) hD, ys ++ [v], upd_same, by rw [List.length_append]; show ys.length + 1 = i + 1; omega, fun j w hj => ?_⟩
    rw [less_upd]
    by_cases hlt : j < ys.length
    · rw [List.getElem?_append_left hlt] at hj
      exact hP _ _ _ _ (less_mono (less_mono e4)) (hp j w hj)
    · have ej : j = ys.length := by
        have := (List.getElem?_eq_some_iff.mp hj).1
        rw [List.length_append] at this
        have : j < ys.length + 1 := this
        omega
      subst ej
      rw [List.getElem?_append_right (Nat.le_refl _), Nat.sub_self] at hj
      cases Option.some.inj (show some v = some w from hj)
      rw [hlen]
      refine hv _ fun a o h4 hc => ?_
      have ad : a ≠ d := fun z => by
        subst z
        rcases hc with hc | hc
        · rw [less_same] at hc
          cases hc
        · rw [e2 _ _ dn] at hc
          cases hc
      have aD : a ≠ Dl := fun z => by
        subst z
        rcases hc with hc | hc
        · have := exb _ _ hc
          rw [hD] at this
          cases this
        · rw [hl] at hc
          cases hc
      rw [less_ne ad, less_ne aD]
      exact h4
  · obtain ⟨e2, ys, hl, hlen, hp⟩ := q
    have hd2 : H2 d = some (.frz od (.dK kvs)) := e2 _ _ dn
    refine ⟨hd2, k Dl _ ys ?_ ?_ ?_ hlen fun i v hi => hP _ _ _ _ ?_ (hp i v hi)⟩
    · cases h : H0 Dl with
      | none => rfl
      | some o =>
        have := e1 _ _ (by rw [upd_ne ne]; exact h)
        rw [hD] at this
        cases this
    · exact fun a o h => by
        by_cases ha : a = d
        · rw [ha] at h ⊢
          rw [upd_same, ← hd0, h]
        · rw [upd_ne ha]
          exact e2 _ _ (e1 _ _ (by rw [upd_ne ha]; exact h))
    · rw [upd_ne ne]
      exact hl
    · intro a o h
      by_cases ha : a = d
      · rw [ha, less_same] at h
        cases h
      · rw [less_ne ha] at h
        by_cases hb : a = Dl
        · rw [hb, less_same] at h
          cases h
        · rw [less_ne hb] at h ⊢
          rw [upd_ne ha]
          exact h
/-- {x: e for x in d}: d locked -/
theorem dc_keysF {j : Nat} {vs : List Nat} (hP : Mo P) (h1 : ∀ H1, Ev td σ H1 (.ref d)) (hd : H d = some (.dK kvs)) (hz : kvs.length ≤ 40000) (hn : (kvs.map (·.1)).Nodup) (hw : ∀ x, wipe ((wipe σ vs).set j (some x)) vs = wipe σ vs)
    (hj : ∀ x : V, ((wipe σ vs).set j (some x))[j]? = some (some x))
    (he : ∀ (i : Nat) (kv : Key × V) (H1 : Hp) (od : Obj), Ex (less H d) H1 → H1 d = some (.frz od (.dK kvs)) → kvs[i]? = some kv → EvF te ((wipe σ vs).set j (some (kV kv.1))) (less H d) H1 (P i)) :
    ∀ H0, Ex H H0 → ∀ Q : VK, (∀ p H2 (ls : List (Key × V)), H0 p = none → Ex H0 H2 → H2 p = some (.dK ls) → ls.map (·.1) = kvs.map (·.1) → (∀ i kv, ls[i]? = some kv → P i kv.2 (less H2 p)) → Q (.ref p) H2) → tLockE (tDc (iKeys td) (gName j) tYes (tVar j) te vs) σ H0 Q := by
  intro H0 e0 Q k
  have hd0 := e0 _ _ hd
  refine ⟨d, .dK kvs, hd0, trivial, fun od => ?_⟩
  refine h1 _ _ (Ex.refl _) _ fun H1 e1 => ⟨d, od, rfl, .inl ⟨kvs, e1 _ _ upd_same, fun Dl hD => ?_⟩⟩
  have dn : H1 d = some (.frz od (.dK kvs)) := e1 _ _ upd_same
  have ne : Dl ≠ d := fun z => by rw [z] at hD; rw [hD] at dn; cases dn
  have exb : Ex (less H d) H1 := fun a o h => by
    by_cases ha : a = d
    · rw [ha, less_same] at h
      cases h
    · rw [less_ne ha] at h
      exact e1 _ _ (by rw [upd_ne ha]; exact e0 _ _ h)
  let Pv : Nat → Hp → Prop := fun i H' => Ex H1 H' ∧ ∃ ls : List (Key × V), H' Dl = some (.dK ls) ∧ ls.map (·.1) = (kvs.take i).map (·.1) ∧ ∀ j kv, ls[j]? = some kv → P j kv.2 (less (less H' Dl) d)
  have h0 : Pv 0 (upd H1 Dl (.dK [])) := ⟨Ex.new hD, [], upd_same, rfl, fun j v h => by simp at h⟩
  have hs : ∀ i (k : Key) (v : V) H2, kvs[i]? = some (k, v) → Pv i H2 → te ((wipe σ vs).set j (some (kV k))) H2 fun z H5 => ∃ ls k', kV k = kV k' ∧ H5 Dl = some (.dK ls) ∧ ls.length < sizeLine ∧ Pv (i + 1) (upd H5 Dl (.dK (putK ls k' z))) := fun i ky vv H2 hy q => by
    obtain ⟨e2, ls, hl, hk, hp⟩ := q
    have hi : i < kvs.length := (List.getElem?_eq_some_iff.mp hy).1
    have hlen : ls.length = i := by
      have z := congrArg List.length hk
      rw [List.length_map, List.length_map, List.length_take, Nat.min_eq_left (Nat.le_of_lt hi)] at z
      exact z
    refine he i (ky, vv) H1 od exb dn hy _ e2 _ fun v H4 e4 hv => ?_
    have hl4 : H4 Dl = some (.dK ls) := e4 _ _ hl
    have hnk : ky ∉ ls.map (·.1) := by
      rw [hk]
      intro hm
      obtain ⟨kv, hkv, e⟩ := List.mem_map.mp hm
      obtain ⟨m, hm1, hm2⟩ := List.mem_iff_getElem.mp hkv
      have hmi : m < i := by
        rw [List.length_take] at hm1
        omega
      have hget : kvs[m]? = some kv := by
        rw [← hm2, List.getElem_take, List.getElem?_eq_getElem (by omega)]
      have h1 : (kvs.map (·.1))[m]? = some ky := by rw [List.getElem?_map, hget, ← e]; rfl
      have h2 : (kvs.map (·.1))[i]? = some ky := by rw [List.getElem?_map, hy]; rfl
      have := (List.getElem?_inj (by rw [List.length_map]; omega) hn).mp (h1.trans h2.symm)
      omega
    have hput : putK ls ky v = ls ++ [(ky, v)] := putK_new v (by
      cases hv' : valV ls ky with
      | none => rfl
      | some w =>
        exfalso
        apply hnk
        unfold valV at hv'
        cases hf : ls.find? fun kv => decide (kv.1 = ky) with
        | none => rw [hf] at hv'; cases hv'
        | some kv => exact List.mem_map.mpr ⟨kv, List.mem_of_find?_eq_some hf, of_decide_eq_true (List.find?_some (p := fun kv : Key × V => decide (kv.1 = ky)) hf)⟩)
    refine ⟨ls, ky, rfl, hl4, sz_lt (by omega), Ex.mut (e2.trans e4) hD, ls ++ [(ky, v)], by rw [hput]; exact upd_same, ?_, fun j w hj => ?_⟩
    · rw [List.map_append, hk, List.take_succ, hy, List.map_append]
      rfl
    rw [less_upd]
    by_cases hlt : j < ls.length
    · rw [List.getElem?_append_left hlt] at hj
      exact hP _ _ _ _ (less_mono (less_mono e4)) (hp j w hj)
    · have ej : j = ls.length := by
        have := (List.getElem?_eq_some_iff.mp hj).1
        rw [List.length_append] at this
        have : j < ls.length + 1 := this
        omega
      subst ej
      rw [List.getElem?_append_right (Nat.le_refl _), Nat.sub_self] at hj
      cases Option.some.inj (show some (ky, v) = some w from hj)
      rw [hlen]
      refine hv _ fun a o h4 hc => ?_
      have ad : a ≠ d := fun z => by
        subst z
        rcases hc with hc | hc
        · rw [less_same] at hc
          cases hc
        · rw [e2 _ _ dn] at hc
          cases hc
      have aD : a ≠ Dl := fun z => by
        subst z
        rcases hc with hc | hc
        · have := exb _ _ hc
          rw [hD] at this
          cases this
        · rw [hl] at hc
          cases hc
      rw [less_ne ad, less_ne aD]
      exact h4
  refine ⟨fun i m H => m = kvs.length - i ∧ i ≤ kvs.length ∧ Pv i H, ⟨kvs.length, by simp, Nat.zero_le _, h0⟩, ?_⟩
  rintro i m H2 ⟨rfl, hi, q⟩
  have dn2 : H2 d = some (.frz od (.dK kvs)) := q.1 _ _ dn
  by_cases hlt : i < kvs.length
  · refine .inr ⟨walk_keys.goes i H2 hlt dn2, Pv (i + 1), fun H' p' => ⟨kvs.length - (i + 1), by omega, rfl, hlt, p'⟩, fun x H' y => ?_⟩
    obtain ⟨rfl, ky, vv, hy, rfl⟩ := walk_keys.yields i H2 x H' hlt dn2 y
    refine ⟨hw _, ?_⟩
    exact ⟨kV ky, hj _, hs i ky vv _ hy q⟩
  · have e : i = kvs.length := by omega
    subst e
    refine .inl ⟨walk_keys.stops H2 dn2, ?_⟩
    obtain ⟨e2, ls, hl, hk, hp⟩ := q
    rw [List.take_length] at hk
    refine ⟨dn2, k Dl _ ls ?_ ?_ ?_ hk fun i v hi => hP _ _ _ _ ?_ (hp i v hi)⟩
    · cases h : H0 Dl with
      | none => rfl
      | some o =>
        have := e1 _ _ (by rw [upd_ne ne]; exact h)
        rw [hD] at this
        cases this
    · exact fun a o h => by
        by_cases ha : a = d
        · rw [ha] at h ⊢
          rw [upd_same, ← hd0, h]
        · rw [upd_ne ha]
          exact e2 _ _ (e1 _ _ (by rw [upd_ne ha]; exact h))
    · rw [upd_ne ne]
      exact hl
    · intro a o h
      by_cases ha : a = d
      · rw [ha, less_same] at h
        cases h
      · rw [less_ne ha] at h
        by_cases hb : a = Dl
        · rw [hb, less_same] at h
          cases h
        · rw [less_ne hb] at h ⊢
          rw [upd_ne ha]
          exact h
/-- [e for x in xs], xs a list told by its content -/
theorem lc_listF {j : Nat} {vs : List Nat} {Ps : List V → Prop} (hP : Mo P) (h : ∀ H1, Ex H H1 → ∀ Q : VK, (∀ p xs H2, Ps xs → Ex H1 H2 → SqL K H2 p xs → (∀ H3, Ex H2 H3 → SqL K H3 p xs) → Q (.ref p) H2) → tl σ H1 Q)
    (hw : ∀ x, wipe ((wipe σ vs).set j (some x)) vs = wipe σ vs) (he : ∀ (xs : List V) (i : Nat) (x : V) (H1 : Hp), Ps xs → xs.length ≤ 40000 ∧ (Ex H H1 → xs[i]? = some x → EvF te ((wipe σ vs).set j (some x)) H H1 (P i))) :
    ∀ H0, Ex H H0 → ∀ Q : VK, (∀ p H2 xs (ys : List V), Ps xs → H0 p = none → Ex H0 H2 → H2 p = some (.lst ys) → ys.length = xs.length → (∀ i v, ys[i]? = some v → P i v (less H2 p)) → Q (.ref p) H2) → tLc (iList K tl) (gName j) tYes te vs σ H0 Q := by
  intro H0 e0 Q k
  refine h H0 e0 _ fun a xs H1 hPs e1 hx hxm => ⟨a, rfl, ⟨xs, hx⟩, fun Dl hD => ?_⟩
  have hz : xs.length ≤ 40000 := (he xs 0 .non H1 hPs).1
  have exb : Ex H H1 := e0.trans e1
  refine lc_list (xs := xs) (fun i H' => Ex H1 H' ∧ ∃ ys : List V, H' Dl = some (.lst ys) ∧ ys.length = i ∧ ∀ j v, ys[j]? = some v → P j v (less H' Dl)) ⟨Ex.new hD, [], upd_same, rfl, fun j v h => by simp at h⟩ (fun i H' _ q => hxm _ q.1) (fun i x H3 hi q => ?_) (fun H2 q => ?_)
  · obtain ⟨e2, ys, hl, hlen, hp⟩ := q
    have hi' := (List.getElem?_eq_some_iff.mp hi).1
    refine ⟨hw _, ?_⟩
    show te _ _ fun y H4 => ∃ acc, _
    refine (he xs i x H1 hPs).2 exb hi _ e2 _ fun v H4 e4 hv => ?_
    have hl4 : H4 Dl = some (.lst ys) := e4 _ _ hl
    refine ⟨ys, hl4, sz_lt (by omega), Ex.mut (e2.trans e4) hD, ys ++ [v], upd_same, by rw [List.length_append]; show ys.length + 1 = i + 1; omega, fun j w hj => ?_⟩
    rw [less_upd]
    by_cases hlt : j < ys.length
    · rw [List.getElem?_append_left hlt] at hj
      exact hP _ _ _ _ (less_mono e4) (hp j w hj)
    · have ej : j = ys.length := by
        have := (List.getElem?_eq_some_iff.mp hj).1
        rw [List.length_append] at this
        have : j < ys.length + 1 := this
        omega
      subst ej
      rw [List.getElem?_append_right (Nat.le_refl _), Nat.sub_self] at hj
      cases Option.some.inj (show some v = some w from hj)
      rw [hlen]
      refine hv _ fun a o h4 hc => ?_
      have aD : a ≠ Dl := fun z => by
        subst z
        rcases hc with hc | hc
        · have := exb _ _ hc
          rw [hD] at this
          cases this
        · rw [hl] at hc
          cases hc
      rw [less_ne aD]
      exact h4
  · obtain ⟨e2, ys, hl, hlen, hp⟩ := q
    exact k Dl _ xs ys hPs (fresh_back e1 hD) (e1.trans e2) hl hlen hp
end
/-! ### dict(..) of a list of pairs -/
theorem merge_nodup : ∀ (more kvs : List (Key × V)), ((kvs ++ more).map (·.1)).Nodup → mergeK kvs more = kvs ++ more
  | [], kvs, _ => (List.append_nil kvs).symm
  | (k, v) :: r, kvs, h => by
    show mergeK (putK kvs k v) r = _
    have hk : k ∉ kvs.map (·.1) := fun hm => by
      rw [List.map_append, List.nodup_append] at h
      exact h.2.2 _ hm _ (List.mem_map_of_mem List.mem_cons_self) rfl
    have hput : putK kvs k v = kvs ++ [(k, v)] := putK_new v (by
      cases hv' : valV kvs k with
      | none => rfl
      | some w =>
        exfalso
        apply hk
        unfold valV at hv'
        cases hf : kvs.find? fun kv => decide (kv.1 = k) with
        | none => rw [hf] at hv'; cases hv'
        | some kv => exact List.mem_map.mpr ⟨kv, List.mem_of_find?_eq_some hf, of_decide_eq_true (List.find?_some (p := fun kv : Key × V => decide (kv.1 = k)) hf)⟩)
    rw [hput, merge_nodup r (kvs ++ [(k, v)]) (by rw [List.append_assoc]; exact h), List.append_assoc]
    rfl
theorem val_nodup {kvs : List (Key × V)} (hn : (kvs.map (·.1)).Nodup) {i : Nat} {k : Key} {v : V} (h : kvs[i]? = some (k, v)) : valV kvs k = some v := by
  induction kvs generalizing i with
  | nil => simp at h
  | cons x r ih =>
    cases i with
    | zero =>
      cases Option.some.inj (show some x = some (k, v) from by simpa using h)
      exact valV_pos rfl
    | succ i =>
      rw [List.map_cons, List.nodup_cons] at hn
      have h' : r[i]? = some (k, v) := by simpa using h
      rw [valV_neg (fun z => hn.1 (List.mem_map.mpr ⟨(k, v), List.mem_of_getElem? h', z.symm⟩))]
      exact ih hn.2 h'
/-- what stands at t is the pair (key, w) -/
def PairAt (key : Nat → Key) (R : Nat → V → Hp → Prop) (i : Nat) (v : V) (H : Hp) : Prop := ∃ t w, v = .ref t ∧ H t = some (.tup [kV (key i), w]) ∧ R i w H
theorem pairAt_mo {key : Nat → Key} {R : Nat → V → Hp → Prop} (h : Mo R) : Mo (PairAt key R) := fun i v H1 H2 e ⟨t, w, a, b, c⟩ => ⟨t, w, a, e _ _ b, h _ _ _ _ e c⟩
theorem pairs_of {key : Nat → Key} {R : Nat → V → Hp → Prop} {H : Hp} : ∀ (ys : List V) (m : Nat), (∀ i v, ys[i]? = some v → PairAt key R (m + i) v H) →
    ∃ (ps : List Addr) (kvs : List (Key × V)), ys = ps.map V.ref ∧ Paired (fun p (kv : Key × V) => H p = some (.tup [kV kv.1, kv.2])) ps kvs ∧ kvs.length = ys.length ∧ ∀ i kv, kvs[i]? = some kv → kv.1 = key (m + i) ∧ R (m + i) kv.2 H
  | [], _, _ => ⟨[], [], rfl, .nil, rfl, fun i kv h => by simp at h⟩
  | y :: r, m, h => by
    obtain ⟨t, w, rfl, ht, hw⟩ := h 0 y rfl
    obtain ⟨ps, kvs, h1, h2, h3, h4⟩ := pairs_of r (m + 1) fun i v hi => by
      have := h (i + 1) v (by simpa using hi)
      rw [show m + (i + 1) = m + 1 + i by omega] at this
      exact this
    refine ⟨t :: ps, (key (m + 0), w) :: kvs, by rw [h1]; rfl, .cons ht h2, by rw [List.length_cons, List.length_cons, h3], fun i kv hi => ?_⟩
    cases i with
    | zero =>
      cases Option.some.inj (show some _ = some kv from hi)
      exact ⟨rfl, hw⟩
    | succ i =>
      have := h4 i kv (by simpa using hi)
      rw [show m + 1 + i = m + (i + 1) by omega] at this
      exact this
theorem ev_dictF {K : PySem.W.Frag} {σ : L2.St} {H : Hp} {te : TE} {key : Nat → Key} {R : Nat → V → Hp → Prop} {Pc : Nat → Prop} (hR : Mo R)
    (h : ∀ H0, Ex H H0 → ∀ Q : VK, (∀ p H2 (ys : List V), Pc ys.length → H0 p = none → Ex H0 H2 → H2 p = some (.lst ys) → (∀ i v, ys[i]? = some v → PairAt key R i v (less H2 p)) → Q (.ref p) H2) → te σ H0 Q)
    (hn : ∀ n, Pc n → ((List.range n).map key).Nodup) :
    ∀ H0, Ex H H0 → ∀ Q : VK, (∀ p H2 (kvs : List (Key × V)), Pc kvs.length → H0 p = none → Ex H0 H2 → H2 p = some (.dK kvs) → (∀ i kv, kvs[i]? = some kv → kv.1 = key i ∧ R i kv.2 (less H2 p)) → Q (.ref p) H2) → tCB (rDictP K) (tCons te tNil) σ H0 Q := fun H0 e0 Q q =>
  h H0 e0 _ fun p H2 ys hc hp e2 hl hy => by
    obtain ⟨ps, kvs, h1, h2, h3, h4⟩ := pairs_of (m := 0) ys fun i v hi => by rw [Nat.zero_add]; exact hy i v hi
    refine ⟨p, ps, kvs, rfl, by rw [← h1]; exact sq_of hl, Paired.mapP h2 fun b kv hb => st_of (less_ex _ _ hb), fun r hr => ?_⟩
    have hk : kvs.map (·.1) = (List.range kvs.length).map key := List.ext_getElem? fun i => by
      rw [List.getElem?_map, List.getElem?_map]
      by_cases hi : i < kvs.length
      · rw [List.getElem?_range hi, List.getElem?_eq_getElem hi]
        have := (h4 i kvs[i] (List.getElem?_eq_getElem hi)).1
        rw [Nat.zero_add] at this
        exact congrArg some this
      · rw [List.getElem?_eq_none (Nat.le_of_not_lt hi), List.getElem?_eq_none (by rw [List.length_range]; exact Nat.le_of_not_lt hi)]
        rfl
    have hm : mergeK [] kvs = kvs := merge_nodup kvs [] (by
      rw [List.nil_append, hk]
      exact hn _ (h3 ▸ hc))
    refine q r _ kvs (h3 ▸ hc) (fresh_back e2 hr) (e2.trans (Ex.new hr)) (by rw [hm]; exact upd_same) fun i kv hi => ?_
    have := h4 i kv hi
    rw [Nat.zero_add] at this
    refine ⟨this.1, hR _ _ _ _ (fun a o ha => ?_) this.2⟩
    have har : a ≠ r := fun z => by
      rw [z] at ha
      rw [less_ex _ _ ha] at hr
      cases hr
    rw [less_ne har, upd_ne har]
    exact less_ex _ _ ha
end Kn
/-! ### sorted(d, reverse=True), keys all texts -/
namespace SrtO
open PySem PyProof.Rows Srt
section
variable {prog : Program} {w : World} {A : Around} {E : Value → Shared → Prop} {s : Shared}
def svS : Value → PySem.Str
  | .str x _ => x
  | _ => PySem.Str.empty
def ltSvS (v u : Value) : Bool := decide ((svS v).cps.toList < (svS u).cps.toList)
theorem swo_svS : Swo ltSvS := by
  refine ⟨fun x y h => ?_, fun x y z h1 h2 => ?_⟩
  · have a := of_decide_eq_true (p := (svS x).cps.toList < (svS y).cps.toList) h
    exact decide_eq_false (p := (svS y).cps.toList < (svS x).cps.toList) (List.lt_asymm a)
  · have a : ¬ (svS y).cps.toList < (svS x).cps.toList := of_decide_eq_false (p := (svS y).cps.toList < (svS x).cps.toList) h1
    have b : ¬ (svS z).cps.toList < (svS y).cps.toList := of_decide_eq_false (p := (svS z).cps.toList < (svS y).cps.toList) h2
    have c : (svS x).cps.toList ≤ (svS z).cps.toList := List.le_trans (show (svS x).cps.toList ≤ (svS y).cps.toList from a) b
    exact decide_eq_false (p := (svS z).cps.toList < (svS x).cps.toList) c
theorem strs_memS : ∀ {vs : List Value} {ns : List PySem.Str}, StrsAre vs ns → ∀ v ∈ vs, ∃ i t, v = Value.str i t
  | _, _, .nil, v, h => absurd h (by simp)
  | _, _, .cons n t r, v, h => by
    rcases List.mem_cons.mp h with e | h
    · exact ⟨n, t, e⟩
    · exact strs_memS r v h
theorem strs_svS : ∀ {vs : List Value}, (∀ v ∈ vs, ∃ i t, v = Value.str i t) → StrsAre vs (vs.map svS)
  | [], _ => .nil
  | v :: vs, h => by
    obtain ⟨i, t, e⟩ := h v List.mem_cons_self
    subst e
    exact .cons i t (strs_svS fun u hu => h u (List.mem_cons_of_mem _ hu))
theorem svS_strs : ∀ {vs : List Value} {ns : List PySem.Str}, StrsAre vs ns → vs.map svS = ns
  | _, _, .nil => rfl
  | _, _, .cons n t r => congrArg (n :: ·) (svS_strs r)
theorem str_cmpS {vs : List Value} {ns : List PySem.Str} (hI : StrsAre vs ns) : Cmp prog w A s oneType' (fun p => p.1 ∈ vs) (lt2 ltSvS) := by
  intro p q hm hm'
  obtain ⟨a, t, e⟩ := strs_memS hI _ hm
  obtain ⟨b, u, e'⟩ := strs_memS hI _ hm'
  show wpAny (model prog w) A (keyLt' oneType' p.1 q.1) (fun r s' => s' = s ∧ r = ltSvS p.1 q.1) (fun _ _ => False) s
  rw [e, e', keyLt'_oneType]
  exact oneLt_str ⟨rfl, rfl⟩
theorem strs_sortableS {a : Addr} {vs : List Value} {ns : List PySem.Str} (hI : StrsAre vs ns) (h2 : 2 ≤ vs.length) : SortableO prog w A s a vs ltSvS := by
  intro h' _
  refine ⟨oneType', fun Q E hq => ?_, str_cmpS hI⟩
  match vs, hI, h2 with
  | v1 :: v2 :: rest, hI, _ =>
    rw [keyKind_strs hI]
    exact wpAny_pure hq
  | [], _, h => exact absurd h (by decide)
  | [v], _, h => exact absurd h (by simp)
end
end SrtO
namespace Kn
open PySem PySem.Spec PyProof.Rows L2 Evl SX
def rSortRevD (K : PySem.W.Frag) : List V → List V → Hp → VK → Prop := fun xs zs H Q => ∃ (a : Addr) (kvs : List (Key × V)) (ks : List Str), xs = [.ref a] ∧ zs = [.bl true] ∧ Rd H a (.dK kvs) ∧ kvs.map (·.1) = ks.map Sum.inr ∧ ks.length ≤ 100000 ∧ ∀ (ys : List Str) (p : Addr), ys.Perm ks → H p = none → Q (.ref p) (L2.upd H p (.lst (ys.map V.str)))
theorem cr_sortRevD {X : Cx} (hcalm : X.calm = true) : CallRK X (.builtin "sorted") [Str.ofString "reverse"] (rSortRevD X.K) := by
  intro pins s σ H xs zs us ws Q I r rz q
  obtain ⟨a, kvs, ks, rfl, rfl, hd, hks, h64, q⟩ := q
  obtain rfl := Vals.ref1 r
  obtain ⟨w1, rfl, e1⟩ := vals1 rz
  obtain rfl : w1 = Value.bool true := e1
  obtain ⟨z, lo, vs, rel, dd⟩ := dk_rd I.hok hd
  obtain ⟨ep, hat⟩ := dd.dictAt
  have hkeys : vs.map (·.1) = ks.map Sum.inr := rel.keys.symm.trans hks
  have hl : vs.length = ks.length := by
    have e := congrArg List.length hkeys
    rw [List.length_map, List.length_map] at e
    exact e
  have h16 : vs.length ≤ sizeLine := by rw [hl, sizeLine_eq]; omega
  refine PyProof.Rows.call_function_entry_kw PyProof.Rows.kind_sorted PyProof.Rows.plain_sorted PyProof.Rows.entry_sorted (PyProof.Rows.args_sorted_rev _ _) ?_
  unfold Builtin.«sorted»
  refine wpAny_bind (m := checkCount "sorted" 1 1 _) (wpAny_pure ?_)
  refine wpAny_bind (PySem.W.kdu_collect (A := X.A.in1) (PySem.W.kdl_dict (knd := mixKind X.prog X.w) (kvs := vs) (ep := ep) lo) (I.ok.hd hcalm) hat h16 fun h' tk acc hk hacc => ?_)
  have hal : acc.toList.length = ks.length := by rw [Array.length_toList, hacc.1, hl]
  have hS : StrsAre acc.toList ks := strs_at hal fun j v e => by
    obtain ⟨k, x, e1, e2⟩ := hacc.2 j v (by rw [← Array.getElem?_toList]; exact e)
    have e3 : (vs.map (·.1))[j]? = some k := by rw [List.getElem?_map, e1]; all_goals rfl
    rw [hkeys, List.getElem?_map] at e3
    cases e4 : ks[j]? with
    | none => rw [e4] at e3; cases e3
    | some y =>
      rw [e4] at e3
      have e5 : Sum.inr y = k := Option.some.inj e3
      subst e5
      obtain ⟨t, ev⟩ := Value.isStrOf_shape (x := y) (v := v) e2
      exact ⟨y, t, rfl, ev⟩
  have I1 : Inv X pins σ H { s with heap := h', toks := tk } := I.kept hk
  have hzl : acc.toList.length ≤ sizeLine := by rw [hal, sizeLine_eq]; omega
  refine wpAny_bind (wpAny_newList ?_ hzl)
  have hoL : (h'.push (seqObj "list" acc.toList.toArray 0)).get? h'.objs.size = some (seqObj "list" acc.toList.toArray 0) := Heap.get?_push_size _ rfl
  show wpAny _ _ _ _ _ { s with heap := h'.push (seqObj "list" acc.toList.toArray 0), toks := tk }
  refine wpAny_bind (wpAny_holding (PyProof.Rows.wpAny_call_entry_kw PyProof.Rows.slot_list_sort ⟨_, hoL, rfl⟩ PyProof.Rows.entry_list_sort ?_ (PyProof.Rows.args_list_sort_rev _ _)))
  refine SrtR.list_sort_ordR (s := { s with heap := h'.push (seqObj "list" acc.toList.toArray 0), toks := tk }) SrtO.swo_svS hoL hzl (fun h2 => SrtO.strs_sortableS hS h2) fun out hs hb => ⟨_, rfl, ?_⟩
  have hb' : SrtO.Stb SrtO.ltSvS out acc.toList.reverse := hb
  have hmem : ∀ v ∈ out, ∃ i t, v = Value.str i t := fun v hv => SrtO.strs_memS hS v (List.mem_reverse.mp (hb'.perm.mem_iff.mp hv))
  have hperm : (out.map SrtO.svS).Perm ks := by
    have q1 := (hb'.perm.trans (List.reverse_perm _)).map SrtO.svS
    rw [SrtO.svS_strs hS] at q1
    exact q1
  obtain ⟨e', he'⟩ := PyProof.Rows.sortedHeap_at (vs := acc.toList) (out := out.toArray.reverse) hoL
  have g1 : StrsAre out.reverse (out.reverse.map SrtO.svS) := SrtO.strs_svS fun v hv => hmem v (List.mem_reverse.mp hv)
  have g2 : (out.reverse.map SrtO.svS).Perm ks := ((List.reverse_perm out).map SrtO.svS).trans hperm
  have hlen : ((out.reverse.map SrtO.svS).map V.str).length ≤ sizeLine := by
    rw [List.length_map, g2.length_eq]
    exact sz_of h64
  refine wpAny_pure ⟨_, rfl, .ref h'.objs.size, upd H h'.objs.size (.lst ((out.reverse.map SrtO.svS).map V.str)), I1.laid (t' := tk) (fun b u e => ?_) (Nat.le_refl _)
    (show ObjOk X.prog X.w _ _ _ (.lst ((out.reverse.map SrtO.svS).map V.str)) from ⟨hlen, out.reverse, e', vals_of_strs g1, by
      have e6 : out.toArray.reverse = out.reverse.toArray := by simp
      rw [← e6]
      exact he'⟩), rfl, q _ _ g2 (I1.hok.fresh (Nat.le_refl _))⟩
  have hb : b < h'.objs.size := Heap.lt_size e
  rw [PyProof.Rows.sortedHeap_old (Nat.ne_of_lt hb) (by rw [size_push']; exact Nat.lt_succ_of_lt hb)]
  exact Heap.get?_push_of_some _ e
end Kn
/-! ### comprehensions over texts, with a test -/
namespace Kn
open PySem PySem.Spec PyProof.Rows L2 Evl SX
theorem given_take {ns : List Str} {p : Str → Bool} : ∀ n, n ≤ ns.length → given n (fun i => (ns[i]?.map p).getD false) (fun i => (ns[i]?.map V.str).getD .non) = ((ns.take n).filter p).map V.str
  | 0, _ => rfl
  | n + 1, h => by
    have hn : n < ns.length := h
    have e : ns[n]? = some ns[n] := List.getElem?_eq_getElem hn
    have ih := given_take (ns := ns) (p := p) n (Nat.le_of_lt hn)
    rw [List.take_succ, e]
    show _ = ((ns.take n ++ [ns[n]]).filter p).map V.str
    rw [List.filter_append, List.map_append, ← ih]
    cases hp : p ns[n] with
    | true =>
      rw [given_yes (by rw [e]; exact hp), e, List.filter_cons, hp]
      rfl
    | false =>
      rw [given_no (by rw [e]; exact hp), List.filter_cons, hp]
      exact (List.append_nil _).symm
theorem given_filter {ns : List Str} {p : Str → Bool} : given ns.length (fun i => (ns[i]?.map p).getD false) (fun i => (ns[i]?.map V.str).getD .non) = (ns.filter p).map V.str := by
  rw [given_take ns.length (Nat.le_refl _), List.take_length]
section
variable {K : PySem.W.Frag} {σ : L2.St} {H H' : Hp} {te tl : TE} {t : TT} {a : Addr} {j : Nat} {vs : List Nat}
theorem el_lcFN {ns : List Str} {p : Str → Bool} (h : EvL tl σ H (ns.map V.str)) (hz : ns.length ≤ 40000) (hw : ∀ x, wipe ((wipe σ vs).set j (some x)) vs = wipe σ vs)
    (ht : ∀ n ∈ ns, ∀ H1, Ex H H1 → EvT t ((wipe σ vs).set j (some (.str n))) H1 (p n)) (he : ∀ (n : Str) H1, Ev te ((wipe σ vs).set j (some (.str n))) H1 (.str n)) : EvL (tLc (iList K tl) (gName j) t te vs) σ H ((ns.filter p).map V.str) := by
  have k := el_lcNL (K := K) (te := te) (t := t) (j := j) (vs := vs) (fun i => (ns[i]?.map p).getD false) (fun i => (ns[i]?.map V.str).getD .non) h (by rw [List.length_map]; exact hz) hw (fun i x H1 e hi => by
    rw [List.getElem?_map] at hi
    cases hn : ns[i]? with
    | none => rw [hn] at hi; cases hi
    | some n =>
      rw [hn] at hi
      cases Option.some.inj hi
      exact ht n (List.mem_of_getElem? hn) H1 e) (fun i x H1 e hi _ => by
    rw [List.getElem?_map] at hi
    cases hn : ns[i]? with
    | none => rw [hn] at hi; cases hi
    | some n =>
      rw [hn] at hi
      cases Option.some.inj hi
      exact he n H1)
  rw [List.length_map, given_filter] at k
  exact k
theorem el_lcFL {ns : List Str} {p : Str → Bool} (h : Ev tl σ H (.ref a)) (hx : SqL K H a (ns.map V.str)) (hz : ns.length ≤ 40000) (hw : ∀ x, wipe ((wipe σ vs).set j (some x)) vs = wipe σ vs)
    (ht : ∀ n ∈ ns, ∀ H1, Ex H H1 → EvT t ((wipe σ vs).set j (some (.str n))) H1 (p n)) (he : ∀ (n : Str) H1, Ev te ((wipe σ vs).set j (some (.str n))) H1 (.str n)) : EvL (tLc (iList K tl) (gName j) t te vs) σ H ((ns.filter p).map V.str) := by
  have k := el_lcL (K := K) (te := te) (t := t) (j := j) (vs := vs) (fun i => (ns[i]?.map p).getD false) (fun i => (ns[i]?.map V.str).getD .non) h hx (by rw [List.length_map]; exact hz) hw (fun i x H1 e hi => by
    rw [List.getElem?_map] at hi
    cases hn : ns[i]? with
    | none => rw [hn] at hi; cases hi
    | some n =>
      rw [hn] at hi
      cases Option.some.inj hi
      exact ht n (List.mem_of_getElem? hn) H1 e) (fun i x H1 e hi _ => by
    rw [List.getElem?_map] at hi
    cases hn : ns[i]? with
    | none => rw [hn] at hi; cases hi
    | some n =>
      rw [hn] at hi
      cases Option.some.inj hi
      exact he n H1)
  rw [List.length_map, given_filter] at k
  exact k
theorem flat_strs (xs : List Str) : (xs.map V.str).all flatV = true := by
  rw [List.all_eq_true]
  intro v hv
  obtain ⟨x, _, rfl⟩ := List.mem_map.mp hv
  rfl
theorem inV_strs {x : Str} {xs : List Str} : inV (.str x) (xs.map V.str) = decide (x ∈ xs) := by
  unfold inV
  rw [Bool.eq_iff_iff, decide_eq_true_eq]
  simp only [List.any_map, List.any_eq_true, Function.comp]
  constructor
  · rintro ⟨y, hy, h⟩
    have e : y = x := by
      unfold eqV at h
      simpa using h
    rw [← e]
    exact hy
  · intro h
    exact ⟨x, h, by unfold eqV; simp⟩
/-- x in xs, a list of texts -/
theorem ev_inStrs {ta tb : TE} {x : Str} {xs : List Str} (ha : Ev ta σ H (.str x)) (hb : Ev tb σ H (.ref a)) (h : SqL K H a (xs.map V.str)) : Ev (tOp (rIn K false) ta tb) σ H (.bl (decide (x ∈ xs))) :=
  ev_is (ev_op ha hb (rv_isL h rfl (flat_strs xs))) (by rw [inV_strs])
theorem ev_ninStrs {ta tb : TE} {x : Str} {xs : List Str} (ha : Ev ta σ H (.str x)) (hb : Ev tb σ H (.ref a)) (h : SqL K H a (xs.map V.str)) : Ev (tOp (rIn K true) ta tb) σ H (.bl (!decide (x ∈ xs))) :=
  ev_is (ev_op ha hb (rv_niL h rfl (flat_strs xs))) (by rw [inV_strs])
end
end Kn
namespace Kn
open PySem PySem.Spec PyProof.Rows L2 Evl SX
def rLenDR : List V → Hp → VK → Prop := fun xs H Q => ∃ d kvs, xs = [.ref d] ∧ Rd H d (.dK kvs) ∧ Q (.int kvs.length) H
theorem cr_lenDR {X : Cx} : CallR X (.builtin "len") rLenDR := by
  intro pins s σ H xs us Q I r h
  obtain ⟨a, kvs, rfl, ha, q⟩ := h
  obtain ⟨u, rfl, ru⟩ := vals1 r
  cases ru
  exact d_len I ha fun t s' I' => ⟨.int kvs.length, H, I', ⟨t, rfl⟩, q⟩
theorem ev_lenDR {σ : L2.St} {H : Hp} {td : TE} {d : Addr} {kvs : List (Key × V)} (h : Ev td σ H (.ref d)) (hd : Rd H d (.dK kvs)) : Ev (tCB rLenDR (tCons td tNil)) σ H (.int (kvs.length : Int)) := fun H1 e Q q => h H1 e _ fun H2 e2 => ⟨d, kvs, rfl, ex_rd (e.trans e2) hd, q H2 e2⟩
end Kn
namespace Kn
open PySem PySem.Spec PyProof.Rows L2 Evl SX
theorem evf_tup {te : TE} {σ : L2.St} {B H : Hp} {xs : List V} {P : V → Hp → Prop} (h : EvU te σ H xs) (k : ∀ t H5, H5 t = some (.tup xs) → P (.ref t) H5) : EvF te σ B H P := fun H1 e1 Q q =>
  h H1 e1 _ fun t H4 ht e4 h4 => q (.ref t) H4 e4 fun H5 h5 => k t H5 (h5 _ _ h4 (.inr ht))
end Kn
namespace Kn
open PySem PySem.Spec PyProof.Rows L2 Evl SX
section
variable {K : PySem.W.Frag} {σ : L2.St} {H H' : Hp} {td te tl : TE} {D : Ends} {tz tu : TS} {d p : Addr} {kvs : List (Key × V)}
/-- for x in d, the dict locked meanwhile; the body neither breaks nor returns -/
theorem q_forKeys {j : Nat} (h1 : ∀ H1, Ev td σ H1 (.ref d)) (hd : H d = some (.dK kvs)) (Pv : Obj → Nat → L2.St → Hp → Prop)
    (h0 : ∀ od H1, Ex (less H d) H1 → H1 d = some (.frz od (.dK kvs)) → Pv od 0 σ H1) (hG : ∀ od i σ' H', Pv od i σ' H' → H' d = some (.frz od (.dK kvs)))
    (hs : ∀ od i (k : Key) (v : V) σ' H' (D' : Ends), kvs[i]? = some (k, v) → Pv od i σ' H' → tu { D' with nx := Pv od (i + 1), ct := Pv od (i + 1) } (σ'.set j (some (kV k))) H')
    (hd' : ∀ od σ' H', Pv od kvs.length σ' H' → tz D σ' (upd H' d (.dK kvs))) : tSeq (tLock (tFor (iKeys td) (gName j) tu)) tz D σ H := by
  refine ⟨d, .dK kvs, hd, trivial, fun od => ?_⟩
  refine h1 _ _ (Ex.refl _) _ fun H1 e1 => ⟨d, od, rfl, .inl ⟨kvs, e1 _ _ upd_same, ?_⟩⟩
  have dn : H1 d = some (.frz od (.dK kvs)) := e1 _ _ upd_same
  have exb : Ex (less H d) H1 := fun a o h => by
    by_cases ha : a = d
    · rw [ha, less_same] at h
      cases h
    · rw [less_ne ha] at h
      exact e1 _ _ (by rw [upd_ne ha]; exact h)
  refine for_it walk_keys (Pv od) (h0 od H1 exb dn) (fun i σ' H' _ q => hG od i σ' H' q) (fun i x σ' H2 H3 hi q y => ?_) (fun σ' H2 q => ⟨hG od _ σ' H2 q, hd' od σ' H2 q⟩)
  obtain ⟨rfl, k, v, hk, rfl⟩ := y
  exact hs od i k v σ' _ ⟨fun _ _ => True, fun v H' => H' d = some (.frz od (.dK kvs)) ∧ D.rt v (upd H' d (.dK kvs)), fun σ' H' => H' d = some (.frz od (.dK kvs)) ∧ tz D σ' (upd H' d (.dK kvs)), fun _ _ => True⟩ hk q
theorem evd_strsL {xs : List Str} (h : EvL te σ H (xs.map V.str)) : EvD te σ H (.list (xs.map .str)) := fun H1 e Q q => h H1 e _ fun p H2 _ e2 hp => q (.ref p) H2 e2 (.lst hp (dta_strs xs))
/-- the source of a comprehension first -/
theorem lc_first {g : TG} {tt : TT} {vs : List Nat} {Q : VK} (h : tl σ H fun v H1 => tLc (iList K (tC v)) g tt te vs σ H1 Q) : tLc (iList K tl) g tt te vs σ H Q := h
theorem tcb_first {r : List V → Hp → VK → Prop} {Q : VK} (h : te σ H fun v H1 => tCB r (tCons (tC v) tNil) σ H1 Q) : tCB r (tCons te tNil) σ H Q := h
end
end Kn
namespace Kn
open PySem PySem.Spec PyProof.Rows L2 Evl SX
theorem cr_listSK {X : Cx} {K : PySem.W.Frag} (h : X.K = K) : CallR X (.type "list") (rListS K) := by subst h; exact cr_listS
/-- list(..) of a list, as a new object -/
theorem evf_pairL {σ : L2.St} {B H : Hp} {K : PySem.W.Frag} {ta tb : TE} {x : V} {xs : List V} {P : V → Hp → Prop} (ha : Ev ta σ H x) (hb : EvL tb σ H xs) (k : ∀ t q H5, H5 t = some (.tup [x, .ref q]) → H5 q = some (.lst xs) → P (.ref t) H5) :
    EvF (tTup (tCons ta (tCons tb tNil))) σ B H P := fun H1 e1 Q q =>
  ha H1 e1 _ fun H2 e2 => hb H2 (e1.trans e2) _ fun p H3 hp e3 h3 => ⟨by show 2 ≤ _; decide, fun t ht => q (.ref t) _ ((e2.trans e3).trans (Ex.new ht)) fun H5 h5 =>
    k t p H5 (h5 _ _ upd_same (.inr (fresh_back (e2.trans e3) ht))) (h5 _ _ (by rw [upd_ne (fun z => by rw [z] at h3; rw [h3] at ht; cases ht)]; exact h3) (.inr (fresh_back e2 hp)))⟩
end Kn
namespace Kn
open PySem PySem.Spec PyProof.Rows L2 Evl SX
theorem tcb_lc {r : List V → Hp → VK → Prop} {K : PySem.W.Frag} {σ : L2.St} {H : Hp} {tl te : TE} {g : TG} {tt : TT} {vs : List Nat} {Q : VK} (h : tl σ H fun v H1 => tCB r (tCons (tLc (iList K (tC v)) g tt te vs) tNil) σ H1 Q) : tCB r (tCons (tLc (iList K tl) g tt te vs) tNil) σ H Q := h
theorem s_asgOf {te : TE} {g : TG} {D : Ends} {σ : L2.St} {H : Hp} (h : te σ H fun v H1 => g v σ H1 D.nx) : tAsg te g D σ H := h
theorem q_asgOf {te : TE} {g : TG} {D : Ends} {σ : L2.St} {H : Hp} {tz : TS} (h : te σ H fun v H1 => g v σ H1 (tz D)) : tSeq (tAsg te g) tz D σ H := h
end Kn
namespace Kn
open PySem PySem.Spec PyProof.Rows L2 Evl SX
theorem can_lists : ∀ {ls : List (List Str)}, (∀ l ∈ ls, ∀ y ∈ l, okS y.cps.toList = true) → PyData.canLayAll0 (ls.map fun l => .list (l.map .str)) = true
  | [], _ => rfl
  | l :: r, h => by
    rw [List.map_cons]
    refine can_cons ?_ (can_lists fun m hm => h m (List.mem_cons_of_mem _ hm))
    show PyData.canLayAll0 (l.map .str) = true
    exact canL_strs (h l List.mem_cons_self)
theorem depth_lists : ∀ ls : List (List Str), PyData.depthAll (ls.map fun l => .list (l.map .str)) ≤ 1
  | [] => Nat.zero_le _
  | l :: r => by
    show max (PyData.depthAll (l.map .str) + 1) (PyData.depthAll (r.map fun l => .list (l.map .str))) ≤ 1
    rw [depth_strs l]
    have := depth_lists r
    omega
theorem shaped_lists {ls : List (List Str)} (h : ∀ l ∈ ls, ∀ y ∈ l, okS y.cps.toList = true) : SeqAt.shaped (.list (ls.map fun l => .list (l.map .str))) = true :=
  shaped_lst (can_lists h) (by
    show PyData.depthAll (ls.map fun l => .list (l.map .str)) + 1 ≤ 64
    have := depth_lists ls
    omega)
theorem paired_refl {α : Type} {F : α → α → Prop} (h : ∀ a, F a a) : ∀ l : List α, Paired F l l
  | [] => .nil
  | a :: r => .cons (h a) (paired_refl h r)
theorem eqv_lists_same {K : PySem.W.Frag} {H : Hp} {p q : Addr} {xs : List Str} (h1 : H p = some (.lst (xs.map V.str))) (h2 : H q = some (.lst (xs.map V.str))) : EqV K H 2 (.ref p) (.ref q) :=
  .inr (.inr (.inl ⟨p, q, _, _, rfl, rfl, sq_of h1, sq_of h2, Paired.maps xs fun a _ => .inl ⟨rfl, rfl⟩⟩))
end Kn

/-! Kh: == of tuples that hold lists and dicts, list.remove of texts, max with a default. -/
namespace PySem.SeqAt
open PySem PySem.Builtin
section
variable {prog : Program} {w : World}
/-- two tuples of the same length whose items are equal, pair by pair -/
theorem kh_tupEq (p q : Addr) (xs ys : Array Value) (m m2 : Nat) (dp dq : Option Addr) (sp sq : Array (Option Value)) (hlen : xs.size = ys.size) :
    MeetsIn prog w (Builtin.«tuple.__eq__» ⟨[.ref p, .ref q], []⟩) (fun A R s => s.heap.get? p = some { cls := .type "tuple", dict := dp, data := .seq xs m, slots := sp } ∧
      s.heap.get? q = some { cls := .type "tuple", dict := dq, data := .seq ys m2, slots := sq } ∧ (∀ (j : Nat) (hx : j < xs.size) (hy : j < ys.size), EqP prog w A.in1 s xs[j] ys[j] true) ∧ R (.ok (.ret (.bool true))) s) := by
  intro A R s h
  obtain ⟨hp, g, d, tk, os⟩ := s
  obtain ⟨h1, h2, he, hR⟩ := h
  have f2 := AutoSeq1.sub_tuple_tuple
  have hz : (xs.toList.zip ys.toList).length = xs.size := by simp [hlen]
  wp_walk using wpAny_loadPart' h1, wpAny_loadPart' h2, wpAny_forIn_list _ (fun rest b s' => b.1 = none ∧ s' = ⟨hp, g, d, tk, os⟩ ∧ ∃ i, rest = (xs.toList.zip ys.toList).drop i) _
  case turn =>
    rintro ⟨v, u⟩ rest b s' ⟨hb', rfl, i, hd⟩
    have hi : i < (xs.toList.zip ys.toList).length := by
      rcases Nat.lt_or_ge i (xs.toList.zip ys.toList).length with c | c
      · exact c
      · rw [List.drop_of_length_le c] at hd
        cases hd
    have hx : i < xs.size := hz ▸ hi
    have hy : i < ys.size := hlen ▸ hx
    rw [List.drop_eq_getElem_cons hi] at hd
    injection hd with e1 e2
    have ev : v = xs[i] := by
      have := congrArg Prod.fst e1
      simpa using this
    have eu : u = ys[i] := by
      have := congrArg Prod.snd e1
      simpa using this
    subst ev eu
    refine wpAny_bind (he i hx hy _ _ ?_)
    wp_walk
    exact ⟨rfl, rfl, i + 1, e2⟩
  case fin =>
    rintro ⟨b1, b2⟩ s' ⟨hb', rfl, i, hd⟩
    simp only at hb'
    subst hb'
    wp_walk
    simpa [Builtin.Tuple.tupleCompareSizes, hlen] using hR
  case h => exact ⟨rfl, rfl, 0, rfl⟩
end
end PySem.SeqAt
namespace Kn
open PySem PySem.Spec PyProof.Rows L2 Evl SX
/-- equal, of nesting below n, with tuples -/
def EqW (K : PySem.W.Frag) (H : Hp) : Nat → V → V → Prop
  | 0 => fun _ _ => False
  | n + 1 => fun x y => (x = y ∧ flatB x = true) ∨ (∃ a, x = .ref a ∧ y = .ref a) ∨ EqR K H (EqW K H n) x y ∨ ∃ a b xs ys, x = .ref a ∧ y = .ref b ∧ SqT K H a xs ∧ SqT K H b ys ∧ Paired (EqW K H n) xs ys
section
variable {X : Cx} {pins : List (Addr × Obj)} {σ : L2.St} {H : Hp} {s : Shared}
theorem tupW_run (I : Inv X pins σ H s) {A : Around} {F : V → V → Prop} (hu : A.units < cLine) (ih : ∀ x y v u, F x y → RelV x v → RelV y u → SeqAt.EqP X.prog X.w A.in1 s v u true) {a b : Addr} {xs ys : List V} (ha : SqT X.K H a xs) (hb : SqT X.K H b ys) (hp : Paired F xs ys)
    (E Q : Value → Shared → Prop) (q : Q (.bool true) s) : wpAny (model X.prog X.w) A (richCompare .Eq (.ref a) (.ref b)) Q E s := by
  obtain ⟨us, r1, p1, _⟩ := I.tuple ha
  obtain ⟨ws, r2, p2, _⟩ := I.tuple hb
  obtain ⟨⟨cls, dd, data, sl⟩, ho, hc, n, hd⟩ := p1
  obtain ⟨⟨cls2, dd2, data2, sl2⟩, ho2, hc2, n2, hd2⟩ := p2
  simp only at hc hd hc2 hd2
  subst hc hd hc2 hd2
  have hlen : us.toArray.size = ws.toArray.size := by
    rw [List.size_toArray, List.size_toArray, ← r1.length, ← r2.length]
    exact Paired.length hp
  have ta : s.TypeIs (.ref a) "tuple" := ⟨_, ho, rfl⟩
  have tb : s.TypeIs (.ref b) "tuple" := ⟨_, ho2, rfl⟩
  refine wpAny_richCompare_same_room (op := .Eq) ta tb PySem.F.slot_tuple_eq (call_meetsIn PySem.F.slot_tuple_eq ta PySem.F.entry_tuple_eq (PySem.F.args_tuple_eq_2 _ _) (SeqAt.kh_tupEq a b us.toArray ws.toArray n n2 dd dd2 sl sl2 hlen) ⟨ho, ho2, fun j h1 h2 => ?_, ?_⟩) hu
  · have k := items_run ih hp r1 r2 j (by simpa using h1) (by simpa using h2)
    simpa using k
  · exact ⟨(fun x => nomatch x), q⟩
theorem eqW_run (I : Inv X pins σ H s) : ∀ (n : Nat) (A : Around), A.units + n < cLine → ∀ (x y : V) (v u : Value), EqW X.K H n x y → RelV x v → RelV y u → SeqAt.EqP X.prog X.w A s v u true
  | 0, _, _, _, _, _, _, h, _, _ => (show False from h).elim
  | n + 1, A, hu, x, y, v, u, h, rx, ry => by
    have ih := eqW_run I n A.in1 (by show A.units + 1 + n < cLine; omega)
    rcases h with ⟨rfl, f⟩ | ⟨a, rfl, rfl⟩ | h | ⟨a, b, xs, ys, rfl, rfl, ha, hb, hp⟩
    · exact (eqAt_same rx ry f).eqP
    · cases (show v = Value.ref a from rx)
      cases (show u = Value.ref a from ry)
      exact (SeqAt.EqAt.same _).eqP
    · have step := eqR_run I (A := A) (by omega) ih h rx ry
      obtain ⟨a, b, rfl, rfl⟩ : ∃ a b, x = .ref a ∧ y = .ref b := by
        rcases h with ⟨a, b, _, _, e1, e2, _⟩ | ⟨a, b, _, _, e1, e2, _⟩
        · exact ⟨a, b, e1, e2⟩
        · exact ⟨a, b, e1, e2⟩
      cases (show v = Value.ref a from rx)
      cases (show u = Value.ref b from ry)
      by_cases e : a = b
      · subst e
        exact (SeqAt.EqAt.same _).eqP
      · exact SeqAt.eqP_refs e step
    · cases (show v = Value.ref a from rx)
      cases (show u = Value.ref b from ry)
      by_cases e : a = b
      · subst e
        exact (SeqAt.EqAt.same _).eqP
      · exact SeqAt.eqP_refs e (tupW_run I (by omega) ih ha hb hp)
end
/-- a == b of tuples that hold lists, dicts, tuples: equal -/
def rEqW (K : PySem.W.Frag) : R2 := fun x y H Q => ∃ n a b xs ys, n ≤ 60 ∧ x = .ref a ∧ y = .ref b ∧ SqT K H a xs ∧ SqT K H b ys ∧ Paired (EqW K H n) xs ys ∧ Q (.bl true) H
theorem op_eqW {X : Cx} (hu : X.A.units + 64 < cLine) : OpR X (compareOp .Eq) (rEqW X.K) := by
  intro pins s σ H x y v u Q I rx ry h
  obtain ⟨n, a, b, xs, ys, hn, rfl, rfl, ha, hb, hp, q⟩ := h
  cases (show v = Value.ref a from rx)
  cases (show u = Value.ref b from ry)
  exact tupW_run I (A := X.A) (by omega) (eqW_run I n X.A.in1 (by show X.A.units + 1 + n < cLine; omega)) ha hb hp _ _ ⟨.bl true, H, I, rfl, q⟩
end Kn
namespace Kn
open PySem PySem.Spec PyProof.Rows L2 Evl SX
/-! ### list.remove of texts -/
theorem strS_at {vs : List Value} {ns : List Str} (h : StrsAre vs ns) {i : Nat} {x : Str} (hx : ns[i]? = some x) : ∃ t, vs[i]? = some (.str x t) := h.get i x hx
theorem erase_mapS : ∀ (l : List Str) (j : Nat), (l.map V.str).eraseIdx j = (l.eraseIdx j).map V.str
  | [], j => by simp
  | a :: r, 0 => by simp
  | a :: r, j + 1 => by
    have := erase_mapS r j
    simp [this]
def rRemS : V → List V → Hp → VK → Prop := fun x xs H Q => ∃ (l : Addr) (ns : List Str) (k : Str) (j : Nat), x = .ref l ∧ xs = [.str k] ∧ H l = some (.lst (ns.map V.str)) ∧ ns[j]? = some k ∧ (∀ m : Nat, m < j → ns[m]? ≠ some k) ∧ Q .non (L2.upd H l (.lst ((ns.eraseIdx j).map V.str)))
theorem mt_removeS {X : Cx} : MtM X "list.remove" rRemS := by
  intro pins s σ H x xs v us Q I rx rxs h
  obtain ⟨l, ns, k, j, rfl, rfl, hH, hj, hno, q⟩ := h
  cases rx
  obtain ⟨u, rfl, ru⟩ := rxs.one
  obtain ⟨t, rfl⟩ := ru
  obtain ⟨z, its, n, r, hl, e⟩ := I.lstM hH
  have hi := Vals.strs r
  rw [List.length_map] at hl z
  have hjn : j < ns.length := (List.getElem?_eq_some_iff.mp hj).1
  have hjl : j < its.toArray.size := by rw [List.size_toArray]; omega
  have at' : ∀ {m : Nat} {y : Str} (hm : m < its.toArray.size), ns[m]? = some y → isStrOf k its.toArray[m] = (y == k) := fun {m y} hm hy => by
    obtain ⟨tm, hmt⟩ := hi.get m y hy
    obtain ⟨h1, h2⟩ := List.getElem?_eq_some_iff.mp hmt
    have e1 : its.toArray[m] = .str y tm := by simpa using h2
    rw [e1]
    rfl
  refine call_meets PySem.F.slot_list_remove ⟨_, e, rfl⟩ PySem.F.entry_list_remove (PySem.F.args_list_remove_2 _ _)
    (MeetsSeq.list_remove l its.toArray n (.str k t) (isStrOf k) (fun y hy => eq_isStrOf k t hi y (by simpa using hy)) j hjl ?_ ?_ (by rw [List.size_toArray]; omega)) ⟨e, ?_⟩
  · rw [at' hjl hj]
    exact beq_self_eq_true k
  · intro m hm hmj
    have hmn : m < ns.length := by omega
    rw [at' hm (List.getElem?_eq_getElem hmn)]
    exact beq_eq_false_iff_ne.mpr fun e2 => hno m hmj (by rw [List.getElem?_eq_getElem hmn, e2])
  · have rr := r.eraseIdx j
    rw [erase_mapS] at rr
    refine ⟨.non, _, I.lset (its' := its.eraseIdx j) (t' := s.toks) hH e ?_ rr ?_, rfl, q⟩
    · show its.toArray.eraseIdxIfInBounds j = (its.eraseIdx j).toArray
      rw [List.eraseIdxIfInBounds_toArray]
    · have z2 : (ns.eraseIdx j).length ≤ ns.length := List.length_eraseIdx_le ..
      rw [List.length_map]
      omega
end Kn
namespace Kn
open PySem PySem.Spec PyProof.Rows L2 Evl SX
/-! ### max(.., default=i) of ints -/
theorem dp_ints {K : PySem.W.Frag} {H : Hp} : ∀ ns : List Int, DpAll K H (ns.map V.int) (ns.map .int)
  | [] => .nil
  | n :: r => .cons (.int n) (dp_ints r)
theorem depth_intsD : ∀ ns : List Int, PyData.depthAll (ns.map .int) = 0
  | [] => rfl
  | n :: r => by
    show max 0 (PyData.depthAll (r.map .int)) = 0
    rw [depth_intsD r]
    rfl
def maxF (i : Int) : List Int → Int
  | [] => i
  | y :: r => r.foldl max y
def rMaxDf (K : PySem.W.Frag) : List V → List V → Hp → VK → Prop := fun vs zs H Q => ∃ (a : Addr) (ns : List Int) (i : Int), vs = [V.ref a] ∧ zs = [.int i] ∧ SqL K H a (ns.map V.int) ∧ Q (.int (maxF i ns)) H
theorem cr_maxDf {X : Cx} (hc : X.calm = true) (hu : X.A.units + 64 < cLine) : CallRK X (.builtin "max") [Str.ofString "default"] (rMaxDf X.K) := by
  intro pins s σ H vs zs us ws Q I r rz h
  obtain ⟨a, ns, i, rfl, rfl, hs, q⟩ := h
  obtain rfl := Vals.ref1 r
  obtain ⟨w1, rfl, e1⟩ := vals1 rz
  obtain ⟨t, rfl⟩ := e1
  obtain ⟨its, rv, hl, _⟩ := I.list hs
  obtain ⟨as, hr⟩ := Dp.readsAll I (ns.map .int) (ns.map V.int) its (dp_ints ns) rv
  refine PySem.W.max_list_default (I.ok.hd hc) hl.isList (by simpa using hr) ⟨fun x hx y hy => ?_, fun x hx => ?_⟩ (by rw [depth_intsD]; omega) (fun h0 h' tk hk => ?_) (fun y ys j v h' tk bs hys hv hrd hk => ?_)
  · obtain ⟨m, _, rfl⟩ := List.mem_map.mp hx
    obtain ⟨n, _, rfl⟩ := List.mem_map.mp hy
    rfl
  · obtain ⟨m, _, rfl⟩ := List.mem_map.mp hx
    exact fun z => nomatch z
  · have hns : ns = [] := List.map_eq_nil_iff.mp h0
    subst hns
    exact ⟨.int i, H, I.kept hk, ⟨t, rfl⟩, q⟩
  · cases ns with
    | nil => cases hys
    | cons m rr =>
      have h1 : PyData.int m = y := (List.cons.inj hys).1
      have h2 : rr.map PyData.int = ys := (List.cons.inj hys).2
      subst h1 h2
      rw [PySem.W.maxD_ints] at hrd
      obtain ⟨t', rfl, _⟩ := reads_int_inv hrd
      exact ⟨.int _, H, I.kept hk, ⟨t', rfl⟩, q⟩
end Kn
namespace Kn
open PySem PySem.Spec PyProof.Rows L2 Evl SX
/-! ### an own error with a list for a field: self.f = list(xs) -/
section
variable {K : PySem.W.Frag} {σ : L2.St} {H H1 H' : Hp} {te : TE} {D : Ends} {a C p : Addr} {xs : List V} {f : Str}
def sp_I1L (f : Str) (K : PySem.W.Frag) : Sp := fun vs H Q _ => ∃ (a C p : Addr) (xs : List V), vs = [.ref a, .ref p] ∧ SqL K H p xs ∧ H a = some (exo a C none) ∧ OexC K C ∧ PySem.W.findIn K (.ref C) f = some none ∧
  ∀ r dx H', H r = none → H dx = none → dx ≠ a → r ≠ a → r ≠ dx → H' r = some (.lst xs) → XMade H H' a C dx [(f, .ref r)] → Q .non H'
theorem raise1L {W : WX} (oe : OexC K C) (nf : PySem.W.findIn K (.ref C) f = some none) (hv : Ev te σ H (.ref p)) (hp : SqL K H p xs)
    (hk : ∀ d r H', Ex H H' → H' d = some (.xd [(f, .ref r)]) → H' r = some (.lst xs) → W (.ref C) (some d) σ H') : tMkO C (sp_I1L f K) [] (tCons te tNil) σ H (fun cls d H' => W cls d σ H') :=
  hv H (Ex.refl _) _ fun H2 e2 => ⟨(by show 1 ≤ 1000; decide), fun a na => ⟨a, C, p, xs, rfl, ex_l (e2.trans (Ex.new na)) hp, upd_same, oe, nf, fun r dx H' hr hdx ne hra hrd hrl m =>
    ⟨rfl, dx, _, m.1, m.2.1, upd_none hdx, hk dx r _ (fun b o hb => by
      have h2 := e2 _ _ hb
      have n1 := ne_of_none h2 (upd_none hdx)
      have n2 := ne_of_none h2 na
      rw [upd_ne n1, del_ne n2]
      exact m.2.2 b o n2 n1 (by rw [upd_ne n2]; exact h2)) upd_same (by rw [upd_ne hrd, del_ne hra]; exact hrl)⟩⟩⟩
theorem init1L_body {m : List Nat} {tj : TE} (hj : Ev tj [some (.ref a), some (.ref p)] H (.str (S m))) (hp : SqL K H p xs) (ha : H a = some (exo a C none)) (oe : OexC K C) (nf : PySem.W.findIn K (.ref C) f = some none)
    (q : ∀ r dx H', H r = none → H dx = none → dx ≠ a → r ≠ a → r ≠ dx → H' r = some (.lst xs) → XMade H H' a C dx [(f, .ref r)] → D.nx [some (.ref a), some (.ref p)] H') :
    tSeq (tDrop (tVeI K (tCons (tVar 0) (tCons tj tNil)))) (tOst K f (tVar 0) (tCB (rListS K) (tCons (tVar 1) tNil))) D [some (.ref a), some (.ref p)] H := by
  refine q_beinit (ev_var rfl) hj oe ha fun H1 e1 => ?_
  refine el_list (ev_var rfl) (ex_l e1 hp) H1 (Ex.refl H1) _ fun r H2 hr e2 hrl => ?_
  refine ⟨_, rfl, a, C, rfl, oe, nf, .inl ⟨(e1.trans e2) _ _ ha, fun dx hd ne => ?_⟩⟩
  have hra : r ≠ a := fun z => by rw [z, e1 _ _ ha] at hr; cases hr
  have hrd : r ≠ dx := fun z => by rw [z, hd] at hrl; cases hrl
  exact q r dx _ (fresh_back e1 hr) (fresh_back (e1.trans e2) hd) ne hra hrd (by rw [upd_ne hra, upd_ne hrd]; exact hrl) (xmade_new (e1.trans e2) ne)
end
/-- raised: a new error with a new list in its field -/
def RzL (H : Hp) (E : XK) (C : Addr) (f : Str) (xs : List V) : Prop := ∀ d r H', Ex H H' → H' d = some (.xd [(f, .ref r)]) → H' r = some (.lst xs) → E (.ref C) (some d) H'
/-- names.index(x) -/
theorem mt_indexK {X : Cx} {K : PySem.W.Frag} (h : X.K = K) : MtR X "list.index" (rIndex K) := by subst h; exact mt_index
end Kn
namespace Kn
open PySem PySem.Spec PyProof.Rows L2 Evl SX
theorem pe_indexK {X : Cx} {K : PySem.W.Frag} {o e : Expr} {es : List Expr} {to : TE} {t : TA} {apos cpos : Pos} (hK : X.K = K) (ho : PE X o to) (ha : PA X (e :: es) t)
    (h1 : attributeBase o (Str.ofString "index") X.env (eval o X.env) = eval o X.env := by rfl)
    (h2 : ((backTo cpos (starEach (e :: es) X.env)).all (fun x => !x.1) && (backToKw cpos (keywordEach [] X.env)).all (fun x => x.1.isSome)
      && decide ((e :: es).length + ([] : List Keyword).length + (if ([] : List Keyword).isEmpty then 0 else 1) < 30)) = true := by rfl)
    (h3 : (apos.endLine == cpos.line) = true := by rfl) (h4 : starEach (e :: es) X.env = (false, eval e X.env) :: starEach es X.env := by rfl) (h5 : (backTo cpos (starEach es X.env)).any (·.1) = false := by rfl) :
    PE X (.Call (.Attribute o "index" apos) (e :: es) [] cpos) (tBM K "list" (rIndex K) to t) := by
  subst hK
  exact pe_bm PySem.F.plainAttrs_list PySem.F.slot_list_index PySem.F.type_list_index mt_index ho ha h1 h2 h3 h4 h5
end Kn
namespace Kn
open PySem PySem.Spec PyProof.Rows L2 Evl SX
theorem firstS : ∀ {ns : List Str} {k : Str}, k ∈ ns → ∃ j, ns[j]? = some k ∧ (∀ m, m < j → ns[m]? ≠ some k) ∧ ns.eraseIdx j = ns.erase k
  | [], k, h => nomatch h
  | a :: r, k, h => by
    by_cases e : a = k
    · refine ⟨0, by rw [e]; rfl, fun m hm => absurd hm (Nat.not_lt_zero _), ?_⟩
      subst e
      rw [List.erase_cons_head]
      rfl
    · obtain ⟨j, h1, h2, h3⟩ := firstS ((List.mem_cons.mp h).resolve_left fun z => e z.symm)
      refine ⟨j + 1, h1, fun m hm => ?_, ?_⟩
      · cases m with
        | zero => exact fun z => e (Option.some.inj z)
        | succ m => exact h2 m (Nat.lt_of_succ_lt_succ hm)
      · rw [List.erase_cons_tail (by simpa using e), ← h3]
        rfl
section
variable {K : PySem.W.Frag} {σ : L2.St} {H : Hp} {ta te : TE} {D : Ends} {tz : TS} {l : Addr} {ns : List Str} {k : Str}
theorem s_removeS (hl : H l = some (.lst (ns.map V.str))) (ha : Ev ta σ H (.ref l)) (he : Ev te σ H (.str k)) (hk : k ∈ ns) (q : ∀ H1, Ex H H1 → D.nx σ (L2.upd H1 l (.lst ((ns.erase k).map V.str)))) :
    tDrop (tBM K "list" rRemS ta (tCons te tNil)) D σ H := by
  obtain ⟨j, h1, h2, h3⟩ := firstS hk
  refine ha H (Ex.refl H) _ fun H1 e1 => ⟨Or.inl ⟨rfl, _, sq_of (e1 l _ hl)⟩, he H1 e1 _ fun H2 e2 => ⟨l, ns, k, j, rfl, rfl, e2 l _ (e1 l _ hl), h1, h2, ?_⟩⟩
  rw [h3]
  exact q H2 (e1.trans e2)
end
end Kn
namespace Kn
open PySem PySem.Spec PyProof.Rows L2 Evl SX
section
variable {K : PySem.W.Frag} {σ : L2.St} {H : Hp} {ta te tl : TE} {D : Ends} {tz tu : TS} {g : TG}
theorem ev_maxDf {ns : List Int} {i : Int} (h : EvL te σ H (ns.map V.int)) : Ev (tCKw (rMaxDf K) (tCons te tNil) (tCons (tC (.int i)) tNil)) σ H (.int (maxF i ns)) := fun H1 e Q q =>
  h H1 e _ fun p H2 _ e2 hp => ⟨p, ns, i, rfl, rfl, sq_of hp, q H2 e2⟩
theorem q_forFirst (h : tl σ H fun v H1 => tSeq (tFor (iList K (tC v)) g tu) tz D σ H1) : tSeq (tFor (iList K tl) g tu) tz D σ H := h
end
end Kn

/-! Kc: except (A, B) without a name; != of equal tuples that hold lists and dicts. -/
namespace Kn
open PySem PySem.Spec PyProof.Rows L2 Evl SX
/-- what the clause 'except (c1, c2)' wishes of an exception of the body -/
def wOnly2 (K : PySem.W.Frag) (c1 c2 : Value) (ts : Addr → Value → Option Addr → TS) (Wout : WX) (D : Ends) : WX := fun cls d σ H =>
  ∃ b, PySem.W.exmAny K cls [c1, c2] = some b ∧ (b = true → ∀ a, H a = none → ts a cls d D σ H) ∧ (b = false → Wout cls d σ H)
theorem flyingZ_keeps {base h h' : Heap} {l : List Env} {e : Addr} {Z : Obj → Prop} (x : HandSPX.FlyingZ base l e Z h) (k : ∀ b o, h.get? b = some o → h'.get? b = some o) : HandSPX.FlyingZ base l e Z h' := by
  obtain ⟨k1, k2, k3, oe, vs, T, oT, ts, h1, h2, h3, h4, h5, h6, h7, h8, h9⟩ := x
  exact ⟨fun b o z => k _ _ (k1 b o z), k2, Heap.FunFrames.of_keeps (fun b o e _ => ⟨o, k b o e, rfl⟩) k3, oe, vs, T, oT, ts, k _ _ h1, h2, h3, h4, h5, h6, k _ _ h7, h8, h9⟩
/-! the pieces of a try: what runs through, what the suite leaves, the test of a pair of classes, what goes on -/
section
variable {X : Cx} {pins : List (Addr × Obj)} {D : Ends}
theorem kc_spTry {xe : Value → Shared → Prop} (ok : X.Ok) : ∀ {f : Flow} {t : Shared}, SP (X.tr (X.pn ++ pins) xe) [] D f t → SP X pins D f t
  | .next, _, ⟨σ1, H1, J, q⟩ => ⟨σ1, H1, J.ofTry ok, q⟩
  | .brk, _, ⟨σ1, H1, J, q⟩ => ⟨σ1, H1, J.ofTry ok, q⟩
  | .cont, _, ⟨σ1, H1, J, q⟩ => ⟨σ1, H1, J.ofTry ok, q⟩
  | .ret _, _, ⟨v1, σ1, H1, J, r, q⟩ => ⟨v1, σ1, H1, J.ofTry ok, r, q⟩
theorem kc_spSuite {a : Addr} {p : Addr × Obj} (ok : X.Ok) : ∀ {f : Flow} {t : Shared}, SP (X.suite a (p :: (X.pn ++ pins))) [] D f t → SP X pins D f t
  | .next, _, ⟨σ1, H1, J, q⟩ => ⟨σ1, H1, J.unsuite ok, q⟩
  | .brk, _, ⟨σ1, H1, J, q⟩ => ⟨σ1, H1, J.unsuite ok, q⟩
  | .cont, _, ⟨σ1, H1, J, q⟩ => ⟨σ1, H1, J.unsuite ok, q⟩
  | .ret _, _, ⟨v1, σ1, H1, J, r, q⟩ => ⟨v1, σ1, H1, J.unsuite ok, r, q⟩
/-- the exception's object is no frame -/
theorem kc_apart {B h : Heap} {l : List Env} {a : Addr} {Z : Obj → Prop} (x : HandSPX.FlyingZ B l a Z h) : a ∉ frs l := fun hm => by
  obtain ⟨o1, vs1, h1, _, h2⟩ := x.there
  obtain ⟨_, o2, h3, h4⟩ := x.2.2.1.mem hm
  have e : o2 = o1 := Option.some.inj (h3.symm.trans h1)
  exact h4 vs1 (e ▸ h2)
/-- (A, B), evaluated -/
theorem kc_pair {x1 x2 : Str} {c1 c2 : Value} {np1 np2 tpos : Pos} {kk : Nat} {σ : L2.St} {H : Hp} {t : Shared} {Q E : Value → Shared → Prop} (I : Inv X pins σ H t) (hc1 : Names X x1 c1) (hc2 : Names X x2 c2)
    (q : Q (.ref t.heap.objs.size) { t with heap := t.heap.push { cls := .type "tuple", data := .seq [c1, c2].toArray } }) :
    wpAny (model X.prog X.w) X.A (eval (.Tuple [.Name x1 np1, .Name x2 np2] kk tpos) X.env) Q E t := by
  have one : ∀ {x : Str} {c : Value} {np : Pos} {Q1 : Value → Shared → Prop}, Names X x c → Q1 c t → wpAny (model X.prog X.w) X.A (eval (.Name x np) X.env) Q1 E t := fun {x c np Q1} hc h => by
    rcases hc with ⟨hg, hd, hm | ⟨hm, hv, hn⟩⟩
    · exact ld_glob I hg hm h hd
    · exact ld_blt I hg hm hv h hn hd
  exact wpAny_Tuple (PySem.wpAny_items_cons (one hc1 (PySem.wpAny_items_cons (one hc2 (PySem.wpAny_items_nil ⟨by size_fits, q⟩)))))
/-- no clause is left: the exception goes on -/
theorem kc_on {W : WX} {σ : L2.St} {H : Hp} {sI t : Shared} {B : Heap} {a : Addr} {cls : Value} {d : Option Addr} (hs : X.stack = X.env :: X.outer) (hf : X.env.frame = some X.env.locals) (tk : Takes X W) (J : Inv X pins σ H sI)
    (nb : ∀ b o, sI.heap.get? b = some o → b ∉ frs X.stack → B.get? b = some o) (up : sI.heap.UpToSlots t.heap) (fl : HandSPX.FlyingZ B (X.env :: X.outer) a (Zc cls d) t.heap) (na : H a = none) (os : t.os = sI.os) (ag : AllBare t.gens) (w : W cls d σ H) :
    wpAny (model X.prog X.w) X.A (handleBy (.ref a) X.env []) (SP X pins D) X.xe t := by
  have out : wpAny (model X.prog X.w) X.A (setFlight (.ref a) X.env.frame) (fun _ t1 => wpAny (model X.prog X.w) X.A (throw (.ref a) : Sem Flow) (SP X pins D) X.xe t1) X.xe t := by
    rw [hf]
    exact HandSPX.setFlight_upZ fl fun h1 held up1 => wpAny_throw (tk _ _ ⟨a, B, sI, pins, σ, H, cls, d, rfl, J, nb, up.trans up1, .inr (.inr (hs ▸ held)), na, os, ag, w⟩)
  obtain ⟨_, _, _, oe, vs, T, _, _, h1, _, h2, h3, _⟩ := id fl
  refine wpAny_handleBy_nil ?_
  unfold PySem.passOn
  refine wpAny_bind (wpAny_field h1 h2 h3 ?_)
  rw [if_neg (show ¬ (Value.ref T == Value.none) = true by simp)]
  first
    | exact wpAny_bind (wpAny_pure (wpAny_bind out))
    | exact wpAny_bind out
end
section
variable {X : Cx} {x1 x2 : Str} {c1 c2 : Value} {body suite : List Stmt} {b₀ : Stmt} {np1 np2 tpos pos pos' : Pos} {kk : Nat} {tb : WX → TS} {ts : Addr → Value → Option Addr → TS} {Wout : WX}
theorem ps_try_only2 (hs : X.stack = X.env :: X.outer) (hf : X.env.frame = some X.env.locals) (hc1 : Names X x1 c1) (hc2 : Names X x2 c2) (tk : Takes X Wout)
    (hb : ∀ (W : WX) (pn : List (Addr × Obj)) (xe : Value → Shared → Prop), Takes (X.tr pn xe) W → PassesOwn (model X.prog X.w) X.A X.env xe → PSs (X.tr pn xe) body (tb W))
    (hsu : ∀ (a : Addr) (oe : Obj) (cls : Value) (d : Option Addr) (pn : List (Addr × Obj)), Zc cls d oe → (∃ vs, oe.data = .fields vs) → PSs (X.suite a ((a, oe) :: pn)) (b₀ :: suite) (ts a cls d)) :
    PS X (.Try body [.ExceptHandler (some (.Tuple [.Name x1 np1, .Name x2 np2] kk tpos)) none (b₀ :: suite) pos'] [] [] pos) (fun D σ H => tb (wOnly2 X.K c1 c2 ts Wout D) D σ H) := by
  refine ⟨fun pins s σ H D I want => wpAny_Try_except ?_⟩
  have ok := I.ok
  have run := (hb (wOnly2 X.K c1 c2 ts Wout D) (X.pn ++ pins) (fun e t1 => wpAny (model X.prog X.w) X.A (noteFrame e X.env) (fun _ t2 => wpAny (model X.prog X.w) X.A (setFlight e none) (fun _ t3 =>
    wpAny (model X.prog X.w) X.A (handleBy e X.env [.ExceptHandler (some (.Tuple [.Name x1 np1, .Name x2 np2] kk tpos)) none (b₀ :: suite) pos']) (SP X pins D) X.xe t3) X.xe t2) X.xe t1) (fun u t xx => ?_) PassesOwn.looking).run [] s σ H D (I.toTry _) want
  · refine wpAny_mono run (fun f t h => ?_) fun _ _ h => h
    have z := kc_spTry ok h
    cases f with
    | next => exact wpAny_execs_nil z
    | brk => exact z
    | cont => exact z
    | ret u => exact z
  · obtain ⟨a, B, sI, pins', σ', H', cls, d, rfl, J', nb, up, sky, na, os, ag, b, hb1, hyes, hno⟩ := xx
    have J : Inv X pins σ' H' sI := J'.ofTry ok
    have sky' : Sky B (X.env :: X.outer) a (Zc cls d) X.env.locals t.heap := hs ▸ sky
    show wpAny (model X.prog X.w) X.A (noteFrame (.ref a) X.env) _ _ _
    refine Sky.land Zc.steady (by rw [ok.frames, hs]) hf sky' fun g0 fl0 up0 => ?_
    have apart := kc_apart fl0
    have nL : a ≠ X.env.locals := fun z => apart (List.mem_filterMap.mpr ⟨X.env, List.mem_cons_self, by rw [hf, z]⟩)
    have nF : a ∉ X.fs := fun hm => by
      obtain ⟨e, he, q⟩ := List.mem_filterMap.mp hm
      exact apart (List.mem_filterMap.mpr ⟨e, List.mem_cons_of_mem _ he, q⟩)
    -- whatever the heap is grown to, the suite may begin
    have S : ∀ {g : Heap} (fl : HandSPX.FlyingZ B (X.env :: X.outer) a (Zc cls d) g), t.heap.UpToSlots g → ∃ oe, Zc cls d oe ∧ (∃ vs, oe.data = .fields vs) ∧ g.get? a = some oe ∧ Inv (X.suite a ((a, oe) :: (X.pn ++ pins))) [] σ' H' { t with heap := g } := fun {g} fl upg => by
      obtain ⟨oe, vs, h1, h2, h3⟩ := fl.there
      have Jg : Inv X pins σ' H' { t with heap := g } := J.landed nb fl.1 (up.trans upg) os ag
      exact ⟨oe, h2, ⟨vs, h3⟩, h1, Jg.suite h1 h3 na nL nF⟩
    obtain ⟨oe0, hz0, _, he0, S0⟩ := S fl0 up0
    refine wpAny_handleBy_cons (codeAny_handlers_test ?_) (by intro q; cases q)
    refine kc_pair (X := X.suite a ((a, oe0) :: (X.pn ++ pins))) S0 hc1 hc2 ?_
    have LT0 : PySem.W.Looks (model X.prog X.w) g0 (typeOf (.ref a)) cls := fun A Q E t1 k q => wpAny_typeOf_ref (k _ _ he0) (by rw [hz0.1]; exact q)
    have kp : ∀ q o, g0.get? q = some o → (g0.push { cls := .type "tuple", data := .seq [c1, c2].toArray }).get? q = some o := fun _ _ z => Heap.get?_push_of_some _ z
    have fl1 := flyingZ_keeps fl0 kp
    have up1 := up0.trans (Heap.UpToSlots.of_keeps kp)
    have L := PySem.W.exm_tup2 (M := model X.prog X.w) ((S0.kIn).keeps kp) (LT0.keeps kp) (Heap.get?_push_size (o := ({ cls := .type "tuple", data := .seq [c1, c2].toArray } : Obj)) g0 rfl) hb1
    show wpAny _ _ (excMatches (.ref a) (.ref g0.objs.size)) _ _ { t with heap := g0.push { cls := .type "tuple", data := .seq [c1, c2].toArray } }
    generalize g0.push { cls := .type "tuple", data := .seq [c1, c2].toArray } = g1 at fl1 up1 L
    refine L.here ?_
    cases b with
    | false => exact kc_on (t := { t with heap := g1 }) hs hf tk J nb (up.trans up1) fl1 na os ag (hno rfl)
    | true =>
      refine codeAny_handlers_suite (HandSPX.lands_againZ fl1 fun g2 fl2 up2 => ?_)
      obtain ⟨oe2, hz2, hd2, _, S2⟩ := S fl2 (up1.trans up2)
      exact wpAny_mono ((hsu a oe2 cls d (X.pn ++ pins) hz2 hd2).run [] _ _ H' _ S2 (hyes rfl a na)) (fun f t1 h => kc_spSuite ok h) fun _ _ z => z.elim
end
end Kn
namespace PySem.SeqAt
open PySem PySem.Builtin
section
variable {prog : Program} {w : World}
/-- two tuples of the same length whose items are equal, pair by pair, are not unequal -/
theorem kc_tupNe (p q : Addr) (xs ys : Array Value) (m m2 : Nat) (dp dq : Option Addr) (sp sq : Array (Option Value)) (hlen : xs.size = ys.size) :
    MeetsIn prog w (Builtin.«tuple.__ne__» ⟨[.ref p, .ref q], []⟩) (fun A R s => s.heap.get? p = some { cls := .type "tuple", dict := dp, data := .seq xs m, slots := sp } ∧
      s.heap.get? q = some { cls := .type "tuple", dict := dq, data := .seq ys m2, slots := sq } ∧ (∀ (j : Nat) (hx : j < xs.size) (hy : j < ys.size), EqP prog w A.in1 s xs[j] ys[j] true) ∧ R (.ok (.ret (.bool false))) s) := by
  intro A R s h
  obtain ⟨hp, g, d, tk, os⟩ := s
  obtain ⟨h1, h2, he, hR⟩ := h
  have f2 := AutoSeq1.sub_tuple_tuple
  have hz : (xs.toList.zip ys.toList).length = xs.size := by simp [hlen]
  wp_walk using wpAny_loadPart' h1, wpAny_loadPart' h2, wpAny_forIn_list _ (fun rest b s' => b.1 = none ∧ s' = ⟨hp, g, d, tk, os⟩ ∧ ∃ i, rest = (xs.toList.zip ys.toList).drop i) _
  case turn =>
    rintro ⟨v, u⟩ rest b s' ⟨hb', rfl, i, hd⟩
    have hi : i < (xs.toList.zip ys.toList).length := by
      rcases Nat.lt_or_ge i (xs.toList.zip ys.toList).length with c | c
      · exact c
      · rw [List.drop_of_length_le c] at hd
        cases hd
    have hx : i < xs.size := hz ▸ hi
    have hy : i < ys.size := hlen ▸ hx
    rw [List.drop_eq_getElem_cons hi] at hd
    injection hd with e1 e2
    have ev : v = xs[i] := by
      have := congrArg Prod.fst e1
      simpa using this
    have eu : u = ys[i] := by
      have := congrArg Prod.snd e1
      simpa using this
    subst ev eu
    refine wpAny_bind (he i hx hy _ _ ?_)
    wp_walk
    exact ⟨rfl, rfl, i + 1, e2⟩
  case fin =>
    rintro ⟨b1, b2⟩ s' ⟨hb', rfl, i, hd⟩
    simp only at hb'
    subst hb'
    wp_walk
    simpa [Builtin.Tuple.tupleCompareSizes, hlen] using hR
  case h => exact ⟨rfl, rfl, 0, rfl⟩
end
end PySem.SeqAt
namespace Kn
open PySem PySem.Spec PyProof.Rows L2 Evl SX
section
variable {X : Cx} {pins : List (Addr × Obj)} {σ : L2.St} {H : Hp} {s : Shared}
theorem tupNW_run (I : Inv X pins σ H s) {A : Around} {F : V → V → Prop} (hu : A.units < cLine) (ih : ∀ x y v u, F x y → RelV x v → RelV y u → SeqAt.EqP X.prog X.w A.in1 s v u true) {a b : Addr} {xs ys : List V} (ha : SqT X.K H a xs) (hb : SqT X.K H b ys) (hp : Paired F xs ys)
    (E Q : Value → Shared → Prop) (q : Q (.bool false) s) : wpAny (model X.prog X.w) A (richCompare .NotEq (.ref a) (.ref b)) Q E s := by
  obtain ⟨us, r1, p1, _⟩ := I.tuple ha
  obtain ⟨ws, r2, p2, _⟩ := I.tuple hb
  obtain ⟨⟨cls, dd, data, sl⟩, ho, hc, n, hd⟩ := p1
  obtain ⟨⟨cls2, dd2, data2, sl2⟩, ho2, hc2, n2, hd2⟩ := p2
  simp only at hc hd hc2 hd2
  subst hc hd hc2 hd2
  have hlen : us.toArray.size = ws.toArray.size := by
    rw [List.size_toArray, List.size_toArray, ← r1.length, ← r2.length]
    exact Paired.length hp
  have ta : s.TypeIs (.ref a) "tuple" := ⟨_, ho, rfl⟩
  have tb : s.TypeIs (.ref b) "tuple" := ⟨_, ho2, rfl⟩
  refine wpAny_richCompare_same_room (op := .NotEq) ta tb PySem.F.slot_tuple_ne (call_meetsIn PySem.F.slot_tuple_ne ta PySem.F.entry_tuple_ne (PySem.F.args_tuple_ne_2 _ _) (SeqAt.kc_tupNe a b us.toArray ws.toArray n n2 dd dd2 sl sl2 hlen) ⟨ho, ho2, fun j h1 h2 => ?_, ?_⟩) hu
  · have k := items_run ih hp r1 r2 j (by simpa using h1) (by simpa using h2)
    simpa using k
  · exact ⟨(fun x => nomatch x), q⟩
end
/-- a != b of tuples that hold lists, dicts, tuples: equal -/
def rNeW (K : PySem.W.Frag) : R2 := fun x y H Q => ∃ n a b xs ys, n ≤ 60 ∧ x = .ref a ∧ y = .ref b ∧ SqT K H a xs ∧ SqT K H b ys ∧ Paired (EqW K H n) xs ys ∧ Q (.bl false) H
theorem op_neW {X : Cx} (hu : X.A.units + 64 < cLine) : OpR X (compareOp .NotEq) (rNeW X.K) := by
  intro pins s σ H x y v u Q I rx ry h
  obtain ⟨n, a, b, xs, ys, hn, rfl, rfl, ha, hb, hp, q⟩ := h
  cases (show v = Value.ref a from rx)
  cases (show u = Value.ref b from ry)
  exact tupNW_run I (A := X.A) (by omega) (eqW_run I n X.A.in1 (by show X.A.units + 1 + n < cLine; omega)) ha hb hp _ _ ⟨.bl false, H, I, rfl, q⟩
end Kn

/-! Kj: a comprehension whose element wants a token; sep.join of such a one. -/
namespace Kn
open PySem PySem.Spec PyProof.Rows L2 Evl SX
section
variable {X : Cx}
theorem keepF {α : Type} {t : Sem α} {Q : α → Shared → Prop} {M : Model} {A : Around} {s : Shared} (h0 : 1 ≤ s.toks) (h : wpAny M A t Q (fun _ _ => False) s) : wpAny M A t (fun a s' => 1 ≤ s'.toks ∧ Q a s') (fun _ _ => False) s :=
  wpAny_mono (PySem.wpAny_toks h) (fun _ _ q => ⟨Nat.le_trans h0 q.1, q.2⟩) fun _ _ z => z.2
/-- what stands between the turns of a block: the iterator's objects untracked, the wish for the turn, a token out -/
def Blk1 (Y : Cx) (σ : L2.St) (fp : List Addr) (tn : Nat → Heap → Prop) (W : Nat → Nat → Hp → Prop) (n : Nat) (t : Shared) : Prop :=
  1 ≤ t.toks ∧ ∃ i H, Inv Y [] σ H t ∧ tn i t.heap ∧ (∀ b ∈ fp, H b = none) ∧ W i n H
/-- the loop of a block, each element with a token out -/
theorem blk_loop {Y : Cx} {elt tg iter : Expr} {ifs : List Expr} {scope : Scope} {pos : Pos} {g : TG} {tt : TT} {te : TE} {vs : List Nat} {fp : List Addr} {tn : Nat → Heap → Prop} {J : It} {it D : Addr} {σ : L2.St} {W : Nat → Nat → Hp → Prop} {Qd : Hp → Prop} {R : Result → Shared → Prop} {s : Shared} {m0 : Nat}
    (hc : Y.calm = true) (hx : Y.xe = fun _ _ => False) (hp : Y.pn = []) (hex : Y.ex = fp) (T : Turn Y.prog Y.w Y.K tg J fp it tn) (pg : PG Y tg g) (pt : PTs Y ifs tt) (pe : L2.PET Y elt te)
    (turn : ∀ i m H, W i m H → (J.stop i H ∧ Qd H) ∨ (J.go i H ∧ ∃ Nx : Hp → Prop, (∀ H', Nx H' → ∃ m', m' < m ∧ W (i + 1) m' H') ∧ ∀ x H', J.yld i H x H' → g x (wipe σ vs) H' fun σ2 H2 => wipe σ2 vs = wipe σ vs ∧ tt σ2 H2 fun b H3 =>
      if b = true then te σ2 H3 fun y H4 => ∃ acc, H4 D = some (.lst acc) ∧ acc.length < sizeLine ∧ Nx (L2.upd H4 D (.lst (acc ++ [y]))) else Nx H3))
    (fin : ∀ t H, Inv Y [] (wipe σ vs) H t → Qd H → R (.ok .next) t) (h0 : Blk1 Y (wipe σ vs) fp tn W m0 s) :
    codeAny (model Y.prog Y.w) Y.A (.compLoop (.ListComp elt [⟨tg, iter, ifs, 0⟩] scope pos) 0 (.ref it) (.ref D) Y.env) R s := by
  have still : ∀ {σ1 : L2.St} {H1 : Hp} {t : Shared}, Inv Y [] σ1 H1 t → (∀ b ∈ fp, H1 b = none) → ∀ b ∈ fp, FpOk Y [] H1 b := fun {σ1 H1 t} I hn b hb => by
    have hb' : b ∈ Y.ex := hex ▸ hb
    refine ⟨hn b hb, (I.ok.exf b hb').1, I.ok.exfs b hb', .inl hb', fun x c e => (I.ok.exf b hb').2 x c e, fun p h => ?_⟩
    rw [hp] at h
    cases h
  have run : ∀ {α : Type} {t : Sem α} {Q Q' : α → Shared → Prop} {E : Value → Shared → Prop} {t0 : Shared}, wpAny (model Y.prog Y.w) Y.A t Q Y.xe t0 → (∀ a u, Q a u → Q' a u) → wpAny (model Y.prog Y.w) Y.A t Q' E t0 := fun {α t Q Q' E t0} h k => wpAny_mono h k fun _ _ z => by
    rw [hx] at z
    exact z.elim
  refine compLoop_any (Blk1 Y (wipe σ vs) fp tn W) ?_ m0 h0
  rintro n t ⟨k0, i, H, I, st, hn, w⟩
  rcases turn i n H w with ⟨stop, qd⟩ | ⟨go, Nx, hNx, step⟩
  · exact thnF (T.done Y rfl rfl rfl hc i [] t _ H (fun _ _ => False) I (still I hn) st stop) fun r t1 ⟨hr, I1⟩ => by
      subst hr
      exact fin t1 H I1 qd
  refine thnF (keepF k0 (T.item Y rfl rfl rfl hc i [] t _ H (fun _ _ => False) I (still I hn) st go)) fun r t1 ⟨k1, u, hr, h1⟩ => ?_
  subst hr
  refine thnF (keepF k1 h1) fun _ t2 ⟨k2, x, H2, I2, r2, y2, st2, n2⟩ => ?_
  have P2 := I2.pinned (still I2 n2) (T.obj _ _ st2)
  have up : ∀ {α : Type} {c : Sem α} {Q : α → Shared → Prop} {t0 : Shared}, 1 ≤ t0.toks → wpAny (model Y.prog Y.w) Y.A c Q Y.xe t0 → wpAny (model Y.prog Y.w) Y.A c (fun a t' => 1 ≤ t'.toks ∧ Q a t') Y.xe t0 := fun {α c Q t0} hk h =>
    wpAny_mono (PySem.wpAny_toks h) (fun _ _ q => ⟨Nat.le_trans hk q.1, q.2⟩) fun _ _ z => z.2
  refine run (up k2 (pg.run _ t2 _ H2 x u _ P2 r2 (step x H2 y2))) fun _ t3 ⟨k3, σ3, H3, I3, hw3, q3⟩ => ?_
  refine run (up k3 (pt.run _ t3 σ3 H3 _ I3 q3)) fun b t4 ⟨k4, H4, I4, q4⟩ => ?_
  have next : ∀ {t' : Shared} {H' : Hp}, 1 ≤ t'.toks → Inv Y ([] ++ pinsAt fp t2.heap) σ3 H' t' → Nx H' → ∃ m, m < n ∧ Blk1 Y (wipe σ vs) fp tn W m t' := fun {t' H'} k' I' nx => by
    obtain ⟨m, hm, w'⟩ := hNx H' nx
    have pinned : ∀ b ∈ fp, ∀ o, t2.heap.get? b = some o → t'.heap.get? b = some o ∧ H' b = none := fun b hb o e => by
      have z := I'.pin (b, o) (List.mem_append_right _ (List.mem_append_right _ (mem_pinsAt hb e)))
      exact ⟨z.1, z.2.1⟩
    refine ⟨m, hm, k', i + 1, H', (I'.unpinned (pins := [])).weak (by rw [← hw3, wipe_length]) (fun j v e => (wipe_some (hw3 ▸ e)).1), T.keep _ _ _ st2 (fun b hb o e => (pinned b hb o e).1), fun b hb => ?_, w'⟩
    obtain ⟨o, e, _⟩ := T.obj _ _ st2 b hb
    exact (pinned b hb o e).2
  cases b with
  | false =>
    rw [if_neg Bool.false_ne_true] at q4 ⊢
    exact next k4 I4 q4
  | true =>
    rw [if_pos rfl] at q4 ⊢
    refine run (up k4 (pe _ t4 σ3 H4 _ k4 I4 q4)) fun z t5 ⟨k5, yv, H5, I5, r5, acc, hD, hz, nx⟩ => ?_
    have ap : wpAny (model Y.prog Y.w) Y.A (call (.builtin "list.append") [.ref D, z]) (fun _ t' => Inv Y ([] ++ pinsAt fp t2.heap) σ3 (L2.upd H5 D (.lst (acc ++ [yv]))) t') Y.xe t5 := app_ok I5 hD hz r5 fun t6 I6 => I6
    exact run (up k5 ap) fun _ t6 ⟨k6, I6⟩ => next k6 I6 nx
/-- [elt for target in iter if ..] as a value, where the element wants a token and one is out -/
theorem pet_lc {elt tg iter : Expr} {ifs : List Expr} {scope : Scope} {own : List (Str × Nat)} {pos : Pos} {wi : TI} {g : TG} {tt : TT} {te : TE} (hc : X.calm = true) (hN : X.N.Nodup) (hi : PI X tg iter wi) (ok : BlkOk X.N X.env.scope scope own)
    (hg : ∀ (s : Shared) (H : Hp) (C : Addr) (cl : List (Str × Addr)) (fp : List Addr), PG (X.blk s H scope (compEnvC scope cl C X.env) fp) tg g) (ht : ∀ (s : Shared) (H : Hp) (C : Addr) (cl : List (Str × Addr)) (fp : List Addr), PTs (X.blk s H scope (compEnvC scope cl C X.env) fp) ifs tt)
    (he : ∀ (s : Shared) (H : Hp) (C : Addr) (cl : List (Str × Addr)) (fp : List Addr), L2.PET (X.blk s H scope (compEnvC scope cl C X.env) fp) elt te) (hs : ∀ x, foldedSetIterable iter X.env x = pure x := by intro _; rfl) :
    L2.PET X (.ListComp elt [⟨tg, iter, ifs, 0⟩] scope pos) (tLc wi g tt te (own.map (·.2))) := by
  intro pins s σ H Q h0 I h
  rw [eval_ListComp]
  have open_ : ∀ y ∈ scope.names, y.2 = .free → ∃ c, X.env.cells.lookup y.1 = some c := fun y hy e => (ok.free y hy e).elim (fun k => I.ok.has _ (.inl k)) fun k => I.ok.has _ (.inr k)
  have first := wpAny_mono (PySem.wpAny_toks (hi.run pins s σ H _ I h)) (fun v t (q : _ ∧ _) => PySem.wpAny_toks_of q.1 q.2) (fun e t q => q.2)
  refine wpAny_comprehension_free (use := none) rfl hs (closure_ok open_) ok.kind (fun y hy e => by rw [ok.uniq y hy, e]) (wpAny_mono first (fun v t1 h1 => wpAny_mono h1 (fun itv t2 h2 => ?_) fun _ _ z => z.2) fun _ _ z => z)
  obtain ⟨k2, it, fp, tn, J, H2, rfl, I2, T, st2, f2, q⟩ := h2
  have hk2 : 1 ≤ t2.toks := Nat.le_trans h0 k2
  refine wpAny_newObj_type (newEnv_comp ?_) (by show 0 ≤ sizeLine; decide)
  have nD : H2 t2.heap.objs.size = none := I2.hok.fresh (Nat.le_refl _)
  obtain ⟨W, ⟨m0, w0⟩, turn⟩ := q _ nD
  have lt2 : ∀ b ∈ fp, b < t2.heap.objs.size := fun b hb => by
    obtain ⟨o, e, _⟩ := T.obj _ _ st2 b hb
    exact Heap.lt_size e
  generalize hD : t2.heap.objs.size = D at nD w0 turn lt2
  generalize h3 : ({ t2 with heap := t2.heap.push { cls := .type "list", data := .seq ([] : List Value).toArray } } : Shared) = t3
  have p3 : t3.heap = t2.heap.push { cls := .type "list", data := .seq ([] : List Value).toArray } := by rw [← h3]
  have k3 : 1 ≤ t3.toks := by rw [← h3]; exact hk2
  have I3 : Inv X pins σ (L2.upd H2 D (.lst [])) t3 := by
    rw [← h3]
    refine I2.laid (t' := t2.toks) (fun b o e => Heap.get?_push_of_some _ e) (Nat.le_of_eq hD) ⟨Nat.zero_le _, [], 0, .nil, ?_⟩
    rw [← hD]
    exact Heap.get?_push_size _ rfl
  have f3 : ∀ b ∈ fp, FpOk X pins (L2.upd H2 D (.lst [])) b ∧ b < t3.heap.objs.size := fun b hb => by
    have lt := lt2 b hb
    exact ⟨⟨by rw [upd_ne (Nat.ne_of_lt lt)]; exact (f2 b hb).1, (f2 b hb).2⟩, by rw [p3, Heap.size_push, hD]; exact Nat.lt_succ_of_lt lt⟩
  have I4 := block_start I3 ok hN f3
  show codeAny _ _ (.compStart (.ListComp elt [⟨tg, iter, ifs, 0⟩] scope pos) 0 (.ref it) (.ref D) (compEnvC scope (cellsFrom (t3.heap.objs.size + 1) scope.names (cloFrom X.env.cells scope.names [])) t3.heap.objs.size X.env)) (compPost (model X.prog X.w) X.A X.xe none _ (.ref D) t3.heap.objs.size) { t3 with heap := pushCells (t3.heap.push { cls := .type "dict", data := .dict #[] }) scope.names }
  have pg := hg t3 (L2.upd H2 D (.lst [])) t3.heap.objs.size (cellsFrom (t3.heap.objs.size + 1) scope.names (cloFrom X.env.cells scope.names [])) fp
  have pt := ht t3 (L2.upd H2 D (.lst [])) t3.heap.objs.size (cellsFrom (t3.heap.objs.size + 1) scope.names (cloFrom X.env.cells scope.names [])) fp
  have pe := he t3 (L2.upd H2 D (.lst [])) t3.heap.objs.size (cellsFrom (t3.heap.objs.size + 1) scope.names (cloFrom X.env.cells scope.names [])) fp
  have st4 : tn 0 (pushCells (t3.heap.push { cls := .type "dict", data := .dict #[] }) scope.names) := T.keep _ _ _ st2 fun b _ o e => pushCells_keeps _ _ _ _ (Heap.get?_push_of_some _ (by rw [p3]; exact Heap.get?_push_of_some _ e))
  have nfp : ∀ b ∈ fp, (L2.upd H2 D (.lst [])) b = none := fun b hb => (f3 b hb).1.1
  have loop := blk_loop (Y := X.blk t3 (L2.upd H2 D (.lst [])) scope (compEnvC scope (cellsFrom (t3.heap.objs.size + 1) scope.names (cloFrom X.env.cells scope.names [])) t3.heap.objs.size X.env) fp) (s := { t3 with heap := pushCells (t3.heap.push { cls := .type "dict", data := .dict #[] }) scope.names }) (iter := iter) (scope := scope) (D := D) (R := compPost (model X.prog X.w) X.A X.xe none (EP X pins σ Q) (.ref D) t3.heap.objs.size) (pos := pos) (Qd := fun H' => Q (.ref D) H') (m0 := m0) hc rfl rfl rfl T pg pt pe turn (fun t H5 I5 qd => ?_) ⟨by exact k3, 0, _, I4, st4, nfp, w0⟩
  · exact codeAny_compStart_list loop (T.self X.A 0 _ _ _ st4 loop)
  · -- back in the def
    have I6 : Inv X pins σ H5 t := I3.call' (ch := fp) I5.os I5.base I5.hok I5.bare fun b hb => ⟨(f3 b hb).1.2.2.2.1, (f3 b hb).1.2.1, (f3 b hb).1.2.2.2.2.1, (f3 b hb).1.2.2.2.2.2⟩
    have nC : H5 t3.heap.objs.size = none := I5.free
    obtain ⟨m, hn, _⟩ := I5.loc
    refine ⟨m, hn, fun h'' sb => ?_⟩
    obtain ⟨f0, f1, f4, f5, f6, f7⟩ := I3.fpOk (Nat.le_refl _) nC
    exact ⟨.ref D, H5, I6.turned (t' := t.toks) (fun b o hb e => (sb.2 b hb).trans e) f0 f1 f5 f6 f7, rfl, qd⟩
end
section
variable {X : Cx} {e o : Expr} {to te : TE} {pos apos : Pos}
/-- o.name(e), where o gives a token and e wants one -/
theorem pe_m1T {id : String} {name : Str} {r : V → List V → Hp → VK → Prop} (slot : Slot "str" name id) (ty : typeOf (.builtin id) = pure (.type "method_descriptor")) (rule : MtR X id r) (ho : PEb X o to) (he : L2.PET X e te)
    (hs : starEach [e] X.env = [(false, eval e X.env)] := by rfl) (hbase : attributeBase o name X.env (eval o X.env) = eval o X.env := by rfl) (hline : (apos.endLine == pos.line) = true := by rfl) :
    PE X (.Call (.Attribute o name apos) [e] [] pos) (tM1 r to te) := by
  refine ⟨fun pins s σ H Q I h => PySem.Call_method1 hbase hs hline (thn (ho pins s σ H _ I h) fun v t ⟨k1, x, H1, I1, r1, ⟨a, e1⟩, q1⟩ => ?_)⟩
  subst e1
  obtain ⟨tk, rfl⟩ := _root_.id r1
  refine ⟨"str", _, F.plainAttrs_str, slot, ty, typeIs_str _ _ _, (fun _ z => nomatch z), Calls.callWith_builtin rfl (Calls.evalArgs_plain (Calls.spliced_cons ?_))⟩
  exact thn (he pins t σ H1 _ k1 I1 q1) fun u t2 ⟨y, H2, I2, r2, q2⟩ => Calls.spliced_nil (rule pins t2 σ H2 _ [y] _ [u] Q I2 r1 (.cons r2 .nil) q2)
end
section
variable {σ : L2.St} {H : Hp} {ta : TE}
/-- e.replace(y, z), the written y not empty -/
theorem ev_replLL {l y z : List Nat} {s1 s2 : Str} (ha : Ev ta σ H (.str (S l))) (h1 : s1 = S y) (h2 : s2 = S z) (hy : y ≠ []) (hl : l.length ≤ 100000) (hz : z.length ≤ 8) : Ev (CwR.tReplC ta s1 s2) σ H (.str (S (StrLaws.replL y z l))) := fun H1 e Q q => by
  subst h1 h2
  refine ha H1 e _ fun H2 e2 => ⟨S l, rfl, ?_, ?_⟩
  · rw [S_len, S_len]
    have : (l.length + 1) * z.length ≤ 100001 * 8 := Nat.mul_le_mul (by omega) hz
    omega
  · have z1 : Txt.replace (S l) (S y) (S z) = S (StrLaws.replL y z l) := TL.ext_tl (StrLaws.replace_list (show 1 ≤ (S y).length by
      rw [S_len]
      exact List.length_pos_iff.mpr hy))
    rw [z1]
    exact q H2 e2
theorem el_splitG {tb : TE} {l z : List Nat} (ha : Ev ta σ H (.str (S l))) (hb : Ev tb σ H (.str (S z))) (hz : z ≠ []) (hz2 : z.all (· < 256) = true) (hl : l.length ≤ 90000) : EvL (tM1 rSplit ta tb) σ H ((TL.spl z 0 [] l).map fun p => V.str (S p)) := fun H1 e Q q =>
  ha H1 e _ fun H2 e2 => ⟨⟨_, rfl⟩, hb H2 (e.trans e2) _ fun H3 e3 => ⟨S l, S z, rfl, rfl, by
    rw [S_len]
    exact beq_eq_false_iff_ne.mpr fun w => hz (List.length_eq_zero_iff.mp w), sz_of (by rw [S_len]; omega), fun p hp => by
    rw [SX.split_S hz hz2, List.map_map]
    exact q p _ (fresh_back (e2.trans e3) hp) ((e2.trans e3).trans (Ex.new hp)) upd_same⟩⟩
theorem el_lcNM {K : PySem.W.Frag} {te tl : TE} {τ : Type} {ns : List τ} {g f : τ → V} {j : Nat} {vs : List Nat} (h : EvL tl σ H (ns.map g)) (hz : ns.length ≤ 40000) (hw : ∀ x, wipe ((wipe σ vs).set j (some x)) vs = wipe σ vs)
    (he : ∀ n ∈ ns, ∀ H1, Ex H H1 → Ev te ((wipe σ vs).set j (some (g n))) H1 (f n)) : EvL (tLc (iList K tl) (gName j) tYes te vs) σ H (ns.map f) := fun H1 e Q q =>
  lc_first (h H1 e _ fun p H2 np e2 hp => el_lcM (K := K) (a := p) (ev_c (v := .ref p)) (sq_of hp) hz hw (fun n hn H3 e3 => he n hn H3 ((e.trans e2).trans e3)) H2 (Ex.refl _) Q fun p' H3 np' e3 hp' => q p' H3 (fresh_back e2 np') (e2.trans e3) hp')
theorem ev_sumL {K : PySem.W.Frag} {tl : TE} {ns : List Int} (h : EvL tl σ H (ns.map V.int)) : Ev (tCB (rSum K) (tCons tl tNil)) σ H (.int ns.sum) := fun H1 e Q q =>
  h H1 e _ fun p H2 np e2 hp => ⟨p, ns, rfl, sq_of hp, q H2 e2⟩
/-- {a: b, c: d}.get(x, x), all texts -/
theorem ev_get2 {j : Nat} {x s1 s2 s3 s4 : Str} (h : σ[j]? = some (some (.str x))) : Ev (tDGet2 (tDisp [(tC (.str s1), tC (.str s2)), (tC (.str s3), tC (.str s4))]) (tVar j) (tVar j)) σ H (((valV (mergeK [] [(Sum.inr s1, .str s2), (Sum.inr s3, .str s4)]) (Sum.inr x : Key)).getD (.str x))) := fun H1 e Q q => by
  intro p hp
  refine ⟨upd_same, [(Sum.inr s1, .str s2), (Sum.inr s3, .str s4)], rfl, by show 2 ≤ 15; decide, p, rfl, ?_, _, h, _, h, _, dget_rd (.inl upd_same), ?_⟩
  · exact .inl ⟨_, .inl upd_same⟩
  · rw [upd_upd]
    exact q _ (Ex.new hp)
end
/-! ### == of two lists or of two dicts that hold tuples: equal -/
def rEqL (K : PySem.W.Frag) : R2 := fun x y H Q => ∃ n, n ≤ 60 ∧ EqR K H (EqW K H n) x y ∧ Q (.bl true) H
theorem op_eqL {X : Cx} (hu : X.A.units + 64 < cLine) : OpR X (compareOp .Eq) (rEqL X.K) := by
  intro pins s σ H x y v u Q I rx ry h
  obtain ⟨n, hn, he, q⟩ := h
  exact eqR_run I (A := X.A) (by omega) (eqW_run I n X.A.in1 (by show X.A.units + 1 + n < cLine; omega)) he rx ry _ _ ⟨.bl true, H, I, rfl, q⟩
end Kn

/-! Kl: an own error that is caught with a name, and methods called in the suite that handles it; a class with a default that is given its arguments. -/
namespace Kn
open PySem PySem.Spec PyProof.Rows L2 Evl SX
section
variable {P : Program} {w : World} {K : PySem.W.Frag} {mg : Str → Option Value} {base : Heap}
/-- a def that may raise errors whose context is None -/
theorem okXN {nm ql : Str} {st : Stmt} {fa : Addr} {fdt : FuncData} {Ns prs : List Str} {n : Nat} {sp : Sp} (F : Fun K nm ql st fa fdt) (sc : FnScope Ns prs (defScope st)) (ln : ∀ vs H Q E, sp vs H Q E → vs.length = prs.length)
    (body : ∀ (cv : Value) (A : Around) (out : List Env) (s : Shared) (H : Hp) (vs : List V) (Q : VK) (E : XK), Room n (A.deeper (envOfC ql (defScope st) s.heap.objs.size fa cv)) → sp vs H Q E →
      ∃ t, PSs (cxOf (L2N.CX P w) P w K mg base Ns ql (defScope st) fa cv A out s H E) (defBody st) t ∧ t { nx := fun _ Hx => Q .non Hx, rt := Q } (L2.start Ns vs) H) : FnOk P w K mg base (L2N.CX P w) (n + 1) fa fdt prs sp := by
  obtain ⟨c1, c2, kv, dc, pmv, anv, cv, ctv, sl, rfl, look, code⟩ := F.ex
  exact fn_of look code sc ln fun A out s H vs Q E hroom hh => body cv A out s H vs Q E hroom hh
structure MtXN (P : Program) (w : World) (K : PySem.W.Frag) (mg : Str → Option Value) (base : Heap) (k : Nat) (C : Addr) (m : Str) (sp : Sp) : Prop where
  ex : ∃ (f : Addr) (fd : FuncData) (ps : List Str), Cls K C ∧ Meth K C m f ∧ FnOk P w K mg base (L2N.CX P w) k f fd ps sp ∧ Binds K fd ps []
/-- a method that is called while an error is handled -/
structure MtH (P : Program) (w : World) (K : PySem.W.Frag) (mg : Str → Option Value) (base : Heap) (k : Nat) (C : Addr) (m : Str) (sp : Sp) : Prop where
  ex : ∃ (f : Addr) (fd : FuncData) (ps : List Str), Cls K C ∧ Meth K C m f ∧ L2H.FnH P w K mg base CX0 k f fd ps sp ∧ Binds K fd ps []
theorem okH {nm ql : Str} {st : Stmt} {fa : Addr} {fdt : FuncData} {Ns prs : List Str} {n : Nat} {sp : Sp} (F : Fun K nm ql st fa fdt) (sc : FnScope Ns prs (defScope st)) (ln : ∀ vs H Q E, sp vs H Q E → vs.length = prs.length)
    (body : ∀ (cv : Value) (A : Around) (out : List Env) (s : Shared) (H : Hp) (vs : List V) (Q : VK) (E : XK) (p : Addr × Obj), L2H.Hot1 A p → L2H.RoomH n (A.deeper (envOfC ql (defScope st) s.heap.objs.size fa cv)) → sp vs H Q E →
      ∃ t, PSs (L2H.cxH CX0 P w K mg base Ns ql (defScope st) fa cv A out s H E p) (defBody st) t ∧ t { nx := fun _ Hx => Q .non Hx, rt := Q } (L2.start Ns vs) H) : L2H.FnH P w K mg base CX0 (n + 1) fa fdt prs sp := by
  obtain ⟨c1, c2, kv, dc, pmv, anv, cv, ctv, sl, rfl, look, code⟩ := F.ex
  exact L2H.fn_ofH look code sc ln fun A out s H vs Q E p hot hroom hh => body cv A out s H vs Q E p hot hroom hh
end
section
variable {X : Cx} {W : WX} {k j : Nat} {x m : Str} {sp : Sp} {p pos apos : Pos} {e o : Expr} {es : List Expr} {ta : TE} {t : TA} {C : Addr}
theorem takes0N : L2N.Takes X (fun _ _ _ _ => False) := fun _ _ h => by
  obtain ⟨_, _, _, _, _, _, _, _, _, _, _, _, _, _, _, _, no⟩ := h
  exact no.elim
theorem pe_mtXN {pl : Sem Bool} (c : MtXN X.prog X.w X.K X.mg X.base k C m sp) (room : Room j X.A) (le : k ≤ j) (tk : L2N.Takes X W) (recv : PE X o ta) (args : PA X (e :: es) t)
    (st : starEach (e :: es) X.env = (false, eval e X.env) :: starEach es X.env := by rfl) (pl2 : (backTo pos (starEach es X.env)).any (·.1) = false := by rfl)
    (hev : eval (.Call (.Attribute o m apos) (e :: es) [] pos) X.env = (do
      let r ← eval o X.env
      standAt apos.atName
      let (g, self) ← holding [r] (getMethod r m pl)
      callWith pos g self (backTo pos (starEach (e :: es) X.env)) (backToKw pos (keywordEach [] X.env))) := by rfl) : PE X (.Call (.Attribute o m apos) (e :: es) [] pos) (tMethX C m sp (WE W) ta t) := by
  obtain ⟨g, gd, prs, isC, isM, ok, bnd⟩ := c.ex
  constructor
  intro pins s σ H Q inv q0
  refine PySem.W.methodCall_KW (pl := pl) (thn (recv.run pins s σ H _ inv q0) ?_) hev
  rintro u s1 ⟨y, H1, inv1, ry, b, dx, fs, rfl, hb, lk, q1⟩
  cases (show u = Value.ref b from ry)
  apply getmeth_ok inv1 hb isC isM lk
  refine PySem.W.callWith_K (first := [.ref b]) (h₀ := X.base) inv.ok.mod.kin isM.kp (thn (args.run pos pins s1 σ H1 _ inv1 q1) ?_) st pl2
  rintro us s2 ⟨vs, H2, inv2, rel, q2⟩
  exact ⟨inv2.kIn, run_fnS (us := .ref b :: us) (vs := .ref b :: vs) ok (room.mono le) bnd (L2N.passAt tk σ) inv2 (.cons rfl rel) q2⟩
theorem pe_mt0H {pl : Sem Bool} (c : MtH X.prog X.w X.K X.mg X.base k C m sp) (room : L2H.RoomH j X.A) (le : k ≤ j) (hot : L2H.HotC X) (recv : PE X o ta)
    (hev : eval (.Call (.Attribute o m apos) [] [] pos) X.env = (do
      let r ← eval o X.env
      standAt apos.atName
      let (g, self) ← holding [r] (getMethod r m pl)
      callWith pos g self (backTo pos (starEach [] X.env)) (backToKw pos (keywordEach [] X.env))) := by rfl) : PE X (.Call (.Attribute o m apos) [] [] pos) (tMeth C m sp [] E0 ta tNil) := by
  obtain ⟨g, gd, prs, isC, isM, ok, bnd⟩ := c.ex
  constructor
  intro pins s σ H Q inv q0
  refine PySem.W.methodCall_KW (pl := pl) (thn (recv.run pins s σ H _ inv q0) ?_) hev
  rintro u s1 ⟨y, H1, inv1, ry, b, dx, fs, rfl, hb, lk, q1⟩
  cases (show u = Value.ref b from ry)
  apply getmeth_ok inv1 hb isC isM lk
  exact PySem.W.callWith_K0 (first := [.ref b]) inv1.kIn isM.kp (L2H.run_fnH (us := [.ref b]) (vs := [.ref b]) (E := fun _ => E0) ok (⟨(room.mono le).dp, (room.mono le).un⟩) hot bnd (fun _ _ _ _ _ _ z => z.elim) inv1 (.cons rfl .nil) q1)
theorem hot_suite {a : Addr} {oe : Obj} {cls : Value} {d : Option Addr} {pn : List (Addr × Obj)} (hz : L2N.Zn cls d oe) (hf : ∃ vs, oe.data = .fields vs) : L2H.HotC (X.suite a ((a, oe) :: pn)) := by
  obtain ⟨vs, hvs⟩ := hf
  exact ⟨(a, oe), ⟨rfl, vs, hvs, hz.2.2 vs hvs⟩, List.mem_cons_self⟩
theorem room_suite {a : Addr} {pn : List (Addr × Obj)} (r : Room j X.A) : L2H.RoomH j (X.suite a pn).A := ⟨r.dp, r.un⟩
/-- C(e, ..), an own error made by its own __init__, its context None -/
theorem pmk_oexN {fI : Addr} {fd : FuncData} {ps : List Str} (T : OexC X.K C) (iC : PySem.W.findIn X.K (.ref C) "__init__" = some (some (.ref fI))) (tI : PySem.W.typeIn X.K (.ref fI) = some (.type "function"))
    (ok : FnOk X.prog X.w X.K X.mg X.base CX0 k fI fd ps sp) (room : Room (k + 1) X.A) (bnd : Binds X.K fd ps []) (gl : Gl X x) (hm : X.mg x = some (.ref C)) (args : PA X (e :: es) t)
    (hdb : (x == ("__debug__" : Str)) = false := by decide) (st : starEach (e :: es) X.env = (false, eval e X.env) :: starEach es X.env := by rfl) (pl2 : (backTo pos (starEach es X.env)).any (·.1) = false := by rfl) :
    L2N.PMk X (.Call (.Name x p) (e :: es) [] pos) (tMkO C sp [] t) := by
  intro pins s σ H Q inv q0
  obtain ⟨c1, c2, c3, c4, bmm, c6, c7, c8, c9, c10, d0, d1', d2', d3, d5, look, hbm⟩ := T.cls
  apply wpAny_Call_Name_kw
  refine ld_glob inv gl hm ?_ hdb
  refine PySem.W.callWith_K (h₀ := X.base) inv.ok.mod.kin T.kC (thn (args.run pos pins s σ H _ inv q0) ?_) st pl2
  rintro us s1 ⟨vs, H1, inv1, rel, hz, hall⟩
  refine ⟨inv1.kIn, ?_⟩
  show wpAny _ _ (call (.ref C) us) _ _ _
  obtain ⟨hh, gg, dw, tks, oss⟩ := s1
  have le1 : hh.objs.size ≤ hh.objs.size + 1 := Nat.le_succ _
  have want := hall (hh.objs.size + 1) (inv1.hok.fresh le1)
  rw [List.append_nil] at want
  have keepAll : ∀ b o, hh.get? b = some o → ((hh.push (PySem.W.kdv_tup us)).push (PySem.HandSPX.excO C hh.objs.size)).get? b = some o := fun b o z =>
    Heap.get?_push_of_some _ (Heap.get?_push_of_some _ z)
  have there : ((hh.push (PySem.W.kdv_tup us)).push (PySem.HandSPX.excO C hh.objs.size)).get? (hh.objs.size + 1) = some (PySem.HandSPX.excO C hh.objs.size) := by heap_get
  have inv2 := Inv.laid (t' := tks) (a := hh.objs.size + 1) (o := exo (hh.objs.size + 1) C none) (h' := (hh.push (PySem.W.kdv_tup us)).push (PySem.HandSPX.excO C hh.objs.size)) inv1 keepAll le1 (exo_ok there)
  have rel2 : Vals (V.ref (hh.objs.size + 1) :: vs) (Value.ref (hh.objs.size + 1) :: us) := .cons rfl rel
  have lenA : (Value.ref (hh.objs.size + 1) :: us ++ []).length = ps.length := by
    rw [List.append_nil, ← ok.len _ _ _ _ want]
    exact rel2.length.symm
  have lenU : us.length ≤ sizeLine := by
    rw [← Paired.length rel, sizeLine_eq]
    omega
  have bnd2 := bnd _ (Value.ref (hh.objs.size + 1) :: us) inv2.kIn lenA
  rw [List.append_nil] at bnd2
  have runs := ok.run _ X.stack _ _ ⟨Value.ref (hh.objs.size + 1) :: us, []⟩ (Value.ref (hh.objs.size + 1) :: us) _ _ (fun _ _ _ => False) (room.make C us []) (inv2.env0.make C us []) bnd2 rel2 want
  refine wpAny_call (PySem.HandSPX.call_own F.excBase_ValueError (fun Y => PySem.HandSPX.refsVE_contains Y bmm hbm) (inv1.kIn _ _ look) (PySem.W.looks_findIn inv1.kIn iC) (fun self => PySem.W.bind_fn inv1.kIn self tI) lenU (codeAny_mono runs ?_))
  intro r s' hr'
  cases r with
  | error er => exact hr'.elim
  | ok fl =>
    cases fl with
    | next => exact False.elim hr'
    | brk => exact False.elim hr'
    | cont => exact False.elim hr'
    | ret u =>
      obtain ⟨v, H2, osE, bareE, unE, hokE, rv, ev, dd, fs, ea, ed, hd1, q2⟩ := hr'
      subst ev
      obtain ⟨hF, gF, dF, tF, oF⟩ := s'
      obtain ⟨t0, G, J, kG, ge, hoe, na⟩ := mk_end0 (d2 := dF) (t2 := tF) inv1 le1 keepAll unE hokE osE bareE ea ed hd1
      refine ⟨rv, hh.objs.size + 1, _, _, ⟨G, gF, dF, tF, oF⟩, _, .ref C, some dd, rfl, J, kG, ge, hoe, ⟨rfl, rfl, ?_⟩, rfl, rfl, na, rfl, bareE, raises_own T.exC T.tyC, q2⟩
      intro ws hws
      cases hws
      rfl
theorem ps_xkN (c : Xk X.prog X.w X.K X.mg X.base k x C sp) (room : Room j X.A) (le : k + 1 ≤ j) (calm : X.calm = true) (tk : L2N.Takes X W) (gl : Gl X x) (args : PA X (e :: es) t)
    (hdb : (x == ("__debug__" : Str)) = false := by decide) (st : starEach (e :: es) X.env = (false, eval e X.env) :: starEach es X.env := by rfl) (pl2 : (backTo pos (starEach es X.env)).any (·.1) = false := by rfl) :
    PS X (.Raise (some (.Call (.Name x p) (e :: es) [] pos)) none apos) (fun _ σ H => tMkO C sp [] t σ H (fun cls d Hx => W cls d σ Hx)) := by
  obtain ⟨fI, fd, prs, iC, tI, ok, bnd, gC⟩ := c.ex
  exact L2N.ps_raise calm tk (pmk_oexN c.oe iC tI ok (room.mono le) bnd gl gC args hdb st pl2)
/-- a class with defaults, all arguments given -/
theorem pe_mkrD {dvs : List V} (c : MkrD X.prog X.w X.K X.mg X.base k x C sp dvs) (room : Room j X.A) (le : k + 1 ≤ j) (gl : Gl X x) (args : PA X (e :: es) t) (hdb : (x == ("__debug__" : Str)) = false := by decide)
    (st : starEach (e :: es) X.env = (false, eval e X.env) :: starEach es X.env := by rfl) (pl2 : (backTo pos (starEach es X.env)).any (·.1) = false := by rfl) : PE X (.Call (.Name x p) (e :: es) [] pos) (tMake C sp dvs E0 t) := by
  obtain ⟨g, gd, prs, ds, isM, ok, hm, bnd, dv⟩ := c.ex
  exact pe_make isM ok (room.mono le) gl hm bnd dv pass0 args hdb st pl2
end
end Kn

/-! Km: comprehensions over tuples, and calls by name, while an error is handled. -/
namespace Kn
open PySem PySem.Spec PyProof.Rows L2 Evl SX
section
variable {prog : Program} {w : World} {A : Around} {E : Value → Shared → Prop} {s : Shared}
theorem tuple_end_hot {it t xe : Addr} {i : Nat} {items : Array Value} {Q : Option Value → Shared → Prop} (hot : HotX.HotAt A xe s.heap) (hit : s.heap.IsTupleIter it t i) (ht : s.heap.IsTuple t items) (no : items[i]? = none)
    (q : ∀ h', (∀ b o, b ≠ it → s.heap.get? b = some o → h'.get? b = some o) → Q none { s with heap := h' }) : wpAny (model prog w) A (pyNext (.ref it)) Q E s := by
  obtain ⟨oi, gi, ci, di⟩ := id hit
  obtain ⟨ot, gt, _, nt, dt⟩ := ht
  obtain ⟨hh, ox, vx, gx, dx, cx⟩ := hot
  have apart : xe ≠ it := fun z => by
    rw [z, gi] at gx
    cases gx
    rw [di] at dx
    cases dx
    cases cx
  unfold pyNext
  refine wpAny_bind (wpAny_attempt (wpAny_callSpecial?_slot (name := Str.ofString "__next__") hit.typeIs F.slot_tuple_iterator_next (wpAny_call_entry F.slot_tuple_iterator_next hit.typeIs F.entry_tuple_iterator_next ?_ (F.args_tuple_iterator_next_1 _))))
  change wpAny _ _ (field (.ref it) 0 >>= _) _ _ s
  apply wpAny_bind
  refine wpAny_field gi di (x := .ref t) rfl ?_
  change wpAny _ _ (if (Value.ref t == Value.none) = true then _ else _) _ _ s
  rw [if_neg (show ¬ ((Value.ref t == Value.none) = true) from Bool.false_ne_true)]
  change wpAny _ _ (field (.ref it) 1 >>= _) _ _ s
  apply wpAny_bind
  refine wpAny_field gi di (x := .int i 0) rfl ?_
  change wpAny _ _ (seqItems? (.ref t) >>= _) _ _ s
  apply wpAny_bind
  refine wpAny_seqItems gt dt ?_
  simp only [Int.toNat_natCast, no]
  refine wpAny_bind (wpAny_rule (wpAny_bind (wpAny_setField gi di (by simp) ?_)))
  change wpAny _ _ (newExc (.type "StopIteration") [] >>= _) _ _ _
  apply wpAny_bind
  simp only [newExc, newTuple]
  refine wpAny_bind (wpAny_newObj_type ?_ (by size_fits))
  refine wpAny_bind (m := firstArgMember _ _) (wpAny_of_eq (a := Value.none) (by first | rfl | (simp only [firstArgMember]; rfl)) ?_)
  refine wpAny_newObj_type ?_ (by size_fits)
  have keep1 : ∀ b o, b ≠ it → s.heap.get? b = some o → (s.heap.update it (Obj.mapFields fun vs => vs.setIfInBounds 0 Value.none)).get? b = some o := fun b o ne e => by
    rw [Heap.get?_update_other _ _ (Ne.symm ne)]
    exact e
  refine HotX.raiseNew_hot ⟨hh, ox, vx, Heap.get?_push_of_some _ (Heap.get?_push_of_some _ (keep1 _ _ apart gx)), dx, cx⟩ (Nat.ne_of_lt (Heap.lt_size (Heap.get?_push_of_some _ (keep1 _ _ apart gx)))) (Heap.get?_push_size _ rfl) rfl (by first | (simp; done) | (simp; omega) | (simp only [Array.size_append]; simp; omega)) ?_
  refine wpAny_bind (wpAny_isInstance (T := "StopIteration") (b := true) ⟨_, Heap.get?_update_self _ (Heap.get?_push_size _ rfl) rfl, rfl⟩ isSubtype_stop ?_)
  refine wpAny_pure (q _ fun b o ne e => ?_)
  rw [Heap.get?_update_other _ _ (Nat.ne_of_gt (Heap.lt_size (Heap.get?_push_of_some _ (keep1 _ _ ne e))))]
  exact Heap.get?_push_of_some _ (Heap.get?_push_of_some _ (keep1 _ _ ne e))
end
theorem turn_tupH {P : Program} {w : World} {K : PySem.W.Frag} {tg : Expr} (a it : Addr) : L2H.TurnH P w K tg (Itt K a) [it] it (fun i h => h.IsTupleIter it a i) where
  mem := by simp
  obj := (turn_tuple (P := P) (w := w) (K := K) (tg := tg) a it).obj
  keep := (turn_tuple (P := P) (w := w) (K := K) (tg := tg) a it).keep
  self := (turn_tuple (P := P) (w := w) (K := K) (tg := tg) a it).self
  item := by
    intro X hP hw hK hc i pins s σ H E I hf st hg
    subst hP hw hK
    obtain ⟨xs, x, isq, hx⟩ := hg
    obtain ⟨its, rv, isp, hz⟩ := I.tuple isq
    obtain ⟨u, hu, ru⟩ := rv.get hx
    obtain ⟨f0, f1, f2, f3, f4, f5⟩ := hf it (by simp)
    refine wpAny_pyNext_tuple_item st (show s.heap.IsTuple a its.toArray from isp) (x := u) (by simpa using hu) ?_
    intro h1 st1 but
    have I1 : Inv X pins σ H { s with heap := h1 } := I.turned (t' := s.toks) (fun b o ne e => (but.2 b ne).trans e) f0 f1 f3 f4 f5
    obtain ⟨oi, ei, ci, di⟩ := id st1
    exact ⟨u, rfl, go_of (s := { s with heap := h1 }) ei ci di (by decide) ⟨x, H, I1, ru, ⟨rfl, fun ys hy => by rw [I.tuple_inj hy isq]; exact hx⟩, st1, fun b hb => (hf b hb).1⟩⟩
  done := by
    intro X hP hw hK hc i pins s σ H E I hf st hg
    subst hP hw hK
    obtain ⟨xs, isq, hx⟩ := hg
    obtain ⟨its, rv, isp, hz⟩ := I.tuple isq
    obtain ⟨f0, f1, f2, f3, f4, f5⟩ := hf it (by simp)
    obtain ⟨x1, hot⟩ := hc.at I
    have hl := rv.length
    exact tuple_end_hot hot st (show s.heap.IsTuple a its.toArray from isp) (by simp; omega) fun h1 eb => ⟨rfl, I.turned (t' := s.toks) (fun b o ne e => eb b o ne e) f0 f1 f3 f4 f5⟩
section
variable {X : Cx} {pins : List (Addr × Obj)} {σ : L2.St} {H : Hp} {s : Shared}
theorem pi_tupH {tg l : Expr} {tl : TE} (hl : PE X l tl) : L2H.PIH X tg l (iTup X.K tl) := by
  constructor
  intro pins s σ H R I h
  refine thn (hl.run pins s σ H _ I h) ?_
  rintro v s1 ⟨x, H1, I1, r1, a, rfl, ⟨xs, isq⟩, q⟩
  cases r1
  obtain ⟨its, rv, isp, hz⟩ := I1.tuple isq
  refine wpAny_pyIter_tuple (show s1.heap.IsTuple a its.toArray from isp) ?_
  refine ⟨s1.heap.objs.size, [s1.heap.objs.size], _, _, H1, rfl, I1.kept (t' := s1.toks) (fun b o e => Heap.get?_push_of_some _ e), turn_tupH a _, ⟨_, Heap.get?_push_size _ rfl, rfl, rfl⟩, ?_, q⟩
  intro b hb
  rw [List.mem_singleton.mp hb]
  exact I1.fpOk (Nat.le_refl _) (I1.hok.fresh (Nat.le_refl _))
/-- a comprehension's block while p's error is handled -/
abbrev blkH (X : Cx) (s : Shared) (H : Hp) (scope : Scope) (cenv : Env) (fp : List Addr) (p : Addr × Obj) : Cx := { X.blk s H scope cenv fp with pn := [p] }
theorem blk_hot {scope : Scope} {cenv : Env} {fp : List Addr} {p : Addr × Obj} {s0 : Shared} {H0 : Hp} (I : Inv (X.blk s0 H0 scope cenv fp) [] σ H s) (hp : s.heap.get? p.1 = some p.2 ∧ H p.1 = none ∧ p.1 ≠ cenv.locals ∧ p.1 ∉ frs X.stack ∧ ∀ v, p.2.data ≠ .cell v) : Inv (blkH X s0 H0 scope cenv fp p) [] σ H s :=
  ⟨⟨I.ok.mod, I.ok.kind, I.ok.glob, I.ok.blt, I.ok.above, I.ok.inj, I.ok.has, I.ok.cab, I.ok.hd, I.ok.frames, I.ok.stk, I.ok.exf, I.ok.bs, I.ok.bsz, I.ok.noex, I.ok.exfs, I.ok.funs, I.ok.frf⟩,
    I.os, I.bare, I.base, I.loc, I.cell, I.free, I.freeC, fun q hq => by
      rw [show q = p by simpa using hq]
      exact hp, I.hok, I.len⟩
/-- the loop of such a block -/
theorem blk_loopH {Y : Cx} {elt tg iter : Expr} {scope : Scope} {pos : Pos} {g : TG} {te : TE} {vs : List Nat} {fp : List Addr} {tn : Nat → Heap → Prop} {J : It} {it D : Addr} {W : Nat → Nat → Hp → Prop} {Qd : Hp → Prop} {R : Result → Shared → Prop} {m0 : Nat}
    (hc : L2H.HotC Y) (hx : Y.xe = fun _ _ => False) (hpn : ∀ q ∈ Y.pn, ∀ b ∈ fp, q.1 ≠ b) (hex : Y.ex = fp) (T : L2H.TurnH Y.prog Y.w Y.K tg J fp it tn) (pg : PG Y tg g) (pe : PE Y elt te)
    (turn : ∀ i m H, W i m H → (J.stop i H ∧ Qd H) ∨ (J.go i H ∧ ∃ Nx : Hp → Prop, (∀ H', Nx H' → ∃ m', m' < m ∧ W (i + 1) m' H') ∧ ∀ x H', J.yld i H x H' → g x (wipe σ vs) H' fun σ2 H2 => wipe σ2 vs = wipe σ vs ∧ tYes σ2 H2 fun b H3 =>
      if b = true then te σ2 H3 fun y H4 => ∃ acc, H4 D = some (.lst acc) ∧ acc.length < sizeLine ∧ Nx (L2.upd H4 D (.lst (acc ++ [y]))) else Nx H3))
    (fin : ∀ t H, Inv Y [] (wipe σ vs) H t → Qd H → R (.ok .next) t) (h0 : ∃ i H, Inv Y [] (wipe σ vs) H s ∧ tn i s.heap ∧ (∀ b ∈ fp, H b = none) ∧ W i m0 H) :
    codeAny (model Y.prog Y.w) Y.A (.compLoop (.ListComp elt [⟨tg, iter, [], 0⟩] scope pos) 0 (.ref it) (.ref D) Y.env) R s := by
  have still : ∀ {σ1 : L2.St} {H1 : Hp} {t : Shared}, Inv Y [] σ1 H1 t → (∀ b ∈ fp, H1 b = none) → ∀ b ∈ fp, FpOk Y [] H1 b := fun {σ1 H1 t} I hn b hb => by
    have inX : b ∈ Y.ex := hex ▸ hb
    exact ⟨hn b hb, (I.ok.exf b inX).1, I.ok.exfs b inX, .inl inX, fun x c e => (I.ok.exf b inX).2 x c e, fun q hq => hpn q (by simpa using hq) b hb⟩
  have run : ∀ {α : Type} {t : Sem α} {Q Q' : α → Shared → Prop} {E : Value → Shared → Prop} {t0 : Shared}, wpAny (model Y.prog Y.w) Y.A t Q Y.xe t0 → (∀ a u, Q a u → Q' a u) → wpAny (model Y.prog Y.w) Y.A t Q' E t0 := fun {α t Q Q' E t0} h k => wpAny_mono h k fun _ _ z => by
    rw [hx] at z
    exact z.elim
  refine compLoop_any (fun n t => ∃ i H, Inv Y [] (wipe σ vs) H t ∧ tn i t.heap ∧ (∀ b ∈ fp, H b = none) ∧ W i n H) ?_ m0 h0
  rintro n t ⟨i, H, I, st, hn, w⟩
  rcases turn i n H w with ⟨stop, qd⟩ | ⟨go, Nx, hNx, step⟩
  · exact thnF (T.done Y rfl rfl rfl hc i [] t _ H (fun _ _ => False) I (still I hn) st stop) fun r t1 ⟨hr, I1⟩ => by
      subst hr
      exact fin t1 H I1 qd
  refine thnF (T.item Y rfl rfl rfl hc i [] t _ H (fun _ _ => False) I (still I hn) st go) fun r t1 ⟨u, hr, h1⟩ => ?_
  subst hr
  refine thnF h1 fun _ t2 ⟨x, H2, I2, r2, y2, st2, n2⟩ => ?_
  have P2 := I2.pinned (still I2 n2) (T.obj _ _ st2)
  refine run (pg.run _ t2 _ H2 x u _ P2 r2 (step x H2 y2)) fun _ t3 ⟨σ3, H3, I3, hw3, q3⟩ => ?_
  have next : ∀ {t' : Shared} {H' : Hp}, Inv Y ([] ++ pinsAt fp t2.heap) σ3 H' t' → Nx H' → ∃ m, m < n ∧ ∃ i H, Inv Y [] (wipe σ vs) H t' ∧ tn i t'.heap ∧ (∀ b ∈ fp, H b = none) ∧ W i m H := fun {t' H'} I' nx => by
    obtain ⟨m, hm, w'⟩ := hNx H' nx
    have pinned : ∀ b ∈ fp, ∀ o, t2.heap.get? b = some o → t'.heap.get? b = some o ∧ H' b = none := fun b hb o e => by
      have z := I'.pin (b, o) (List.mem_append_right _ (List.mem_append_right _ (mem_pinsAt hb e)))
      exact ⟨z.1, z.2.1⟩
    refine ⟨m, hm, i + 1, H', (I'.unpinned (pins := [])).weak (by rw [← hw3, wipe_length]) (fun j v e => (wipe_some (hw3 ▸ e)).1), T.keep _ _ _ st2 (fun b hb o e => (pinned b hb o e).1), fun b hb => ?_, w'⟩
    obtain ⟨o, e, _⟩ := T.obj _ _ st2 b hb
    exact (pinned b hb o e).2
  have pt : PTs Y [] tYes := pts_nil
  refine run (pt.run _ t3 σ3 H3 _ I3 q3) fun b t4 ⟨H4, I4, q4⟩ => ?_
  cases b with
  | false =>
    rw [if_neg Bool.false_ne_true] at q4 ⊢
    exact next I4 q4
  | true =>
    rw [if_pos rfl] at q4 ⊢
    refine run (pe.run _ t4 σ3 H4 _ I4 q4) fun z t5 ⟨yv, H5, I5, r5, acc, hD, hz, nx⟩ => ?_
    have ap : wpAny (model Y.prog Y.w) Y.A (call (.builtin "list.append") [.ref D, z]) (fun _ t' => Inv Y ([] ++ pinsAt fp t2.heap) σ3 (L2.upd H5 D (.lst (acc ++ [yv]))) t') Y.xe t5 := app_ok I5 hD hz r5 fun t6 I6 => I6
    exact run ap fun _ t6 I6 => next I6 nx
/-- [elt for target in iter] over a tuple, while an error is handled -/
theorem lc_coreH {pins : List (Addr × Obj)} {s : Shared} {σ : L2.St} {H : Hp} {Q : VK} {elt tg iter : Expr} {scope : Scope} {own : List (Str × Nat)} {pos pos' : Pos} {wi : TI} {g : TG} {te : TE} {use : Option (Value → Sem Unit)} {Qf : Value → Shared → Prop} (hc : L2H.HotC X) (I : Inv X pins σ H s) (hN : X.N.Nodup) (hi : L2H.PIH X tg iter wi) (ok : BlkOk X.N X.env.scope scope own)
    (hg : ∀ (s : Shared) (H : Hp) (C : Addr) (cl : List (Str × Addr)) (fp : List Addr) (p : Addr × Obj), PG (blkH X s H scope (compEnvC scope cl C X.env) fp p) tg g)
    (he : ∀ (s : Shared) (H : Hp) (C : Addr) (cl : List (Str × Addr)) (fp : List Addr) (p : Addr × Obj), L2H.Hot1 X.A p → PE (blkH X s H scope (compEnvC scope cl C X.env) fp p) elt te) (hs : ∀ x, foldedSetIterable iter X.env x = pure x) (h : tLc wi g tYes te (own.map (·.2)) σ H Q)
    (back : ∀ D C s' m H', Inv X pins σ H' s' → Q (.ref D) H' → s'.heap.Ns C m → FpOk X pins H' C → compPost (model X.prog X.w) X.A X.xe use Qf (.ref D) C (.ok .next) s') :
    wpAny (model X.prog X.w) X.A (comprehension (.ListComp elt [⟨tg, iter, [], 0⟩] scope pos) scope X.env pos' (newList []) false (eval iter X.env) use) Qf X.xe s := by
  obtain ⟨p, hot, hp⟩ := hc
  have open_ : ∀ y ∈ scope.names, y.2 = .free → ∃ c, X.env.cells.lookup y.1 = some c := fun y hy e => (ok.free y hy e).elim (fun k => I.ok.has _ (.inl k)) fun k => I.ok.has _ (.inr k)
  refine wpAny_comprehension_free (use := use) rfl hs (closure_ok open_) ok.kind (fun y hy e => by rw [ok.uniq y hy, e]) (wpAny_mono (hi.run pins s σ H _ I h) (fun v t1 h1 => wpAny_mono h1 (fun itv t2 h2 => ?_) fun _ _ z => z) fun _ _ z => z)
  obtain ⟨it, fp, tn, J, H2, rfl, I2, T, st2, f2, q⟩ := h2
  refine wpAny_newObj_type (newEnv_comp ?_) (by show 0 ≤ sizeLine; decide)
  have nD : H2 t2.heap.objs.size = none := I2.hok.fresh (Nat.le_refl _)
  obtain ⟨W, ⟨m0, w0⟩, turn⟩ := q _ nD
  have lt2 : ∀ b ∈ fp, b < t2.heap.objs.size := fun b hb => by
    obtain ⟨o, e, _⟩ := T.obj _ _ st2 b hb
    exact Heap.lt_size e
  generalize hD : t2.heap.objs.size = D at nD w0 turn lt2
  generalize h3 : ({ t2 with heap := t2.heap.push { cls := .type "list", data := .seq ([] : List Value).toArray } } : Shared) = t3
  have p3 : t3.heap = t2.heap.push { cls := .type "list", data := .seq ([] : List Value).toArray } := by rw [← h3]
  have I3 : Inv X pins σ (L2.upd H2 D (.lst [])) t3 := by
    rw [← h3]
    refine I2.laid (t' := t2.toks) (fun b o e => Heap.get?_push_of_some _ e) (Nat.le_of_eq hD) ⟨Nat.zero_le _, [], 0, .nil, ?_⟩
    rw [← hD]
    exact Heap.get?_push_size _ rfl
  have f3 : ∀ b ∈ fp, FpOk X pins (L2.upd H2 D (.lst [])) b ∧ b < t3.heap.objs.size := fun b hb => by
    have lt := lt2 b hb
    exact ⟨⟨by rw [upd_ne (Nat.ne_of_lt lt)]; exact (f2 b hb).1, (f2 b hb).2⟩, by rw [p3, Heap.size_push, hD]; exact Nat.lt_succ_of_lt lt⟩
  have I4 := block_start I3 ok hN f3
  have hpin := I3.pin p (List.mem_append_left _ hp)
  have kpin : (pushCells (t3.heap.push { cls := .type "dict", data := .dict #[] }) scope.names).get? p.1 = some p.2 := pushCells_keeps _ _ _ _ (Heap.get?_push_of_some _ hpin.1)
  have I4h := blk_hot (p := p) I4 ⟨kpin, hpin.2.1, Nat.ne_of_lt (Heap.lt_size hpin.1), fun hm => (List.mem_cons.mp (I3.stkSub p.1 hm)).elim hpin.2.2.1 hpin.2.2.2.1, hpin.2.2.2.2⟩
  show codeAny _ _ (.compStart (.ListComp elt [⟨tg, iter, [], 0⟩] scope pos) 0 (.ref it) (.ref D) (compEnvC scope (cellsFrom (t3.heap.objs.size + 1) scope.names (cloFrom X.env.cells scope.names [])) t3.heap.objs.size X.env)) (compPost (model X.prog X.w) X.A X.xe use _ (.ref D) t3.heap.objs.size) { t3 with heap := pushCells (t3.heap.push { cls := .type "dict", data := .dict #[] }) scope.names }
  have pg := hg t3 (L2.upd H2 D (.lst [])) t3.heap.objs.size (cellsFrom (t3.heap.objs.size + 1) scope.names (cloFrom X.env.cells scope.names [])) fp p
  have pe := he t3 (L2.upd H2 D (.lst [])) t3.heap.objs.size (cellsFrom (t3.heap.objs.size + 1) scope.names (cloFrom X.env.cells scope.names [])) fp p hot
  have st4 : tn 0 (pushCells (t3.heap.push { cls := .type "dict", data := .dict #[] }) scope.names) := T.keep _ _ _ st2 fun b _ o e => pushCells_keeps _ _ _ _ (Heap.get?_push_of_some _ (by rw [p3]; exact Heap.get?_push_of_some _ e))
  have nfp : ∀ b ∈ fp, (L2.upd H2 D (.lst [])) b = none := fun b hb => (f3 b hb).1.1
  have loop := blk_loopH (Y := blkH X t3 (L2.upd H2 D (.lst [])) scope (compEnvC scope (cellsFrom (t3.heap.objs.size + 1) scope.names (cloFrom X.env.cells scope.names [])) t3.heap.objs.size X.env) fp p) (s := { t3 with heap := pushCells (t3.heap.push { cls := .type "dict", data := .dict #[] }) scope.names }) (iter := iter) (scope := scope) (D := D) (R := compPost (model X.prog X.w) X.A X.xe use Qf (.ref D) t3.heap.objs.size) (pos := pos) (Qd := fun H' => Q (.ref D) H') (m0 := m0) ⟨p, hot, List.mem_cons_self⟩ rfl (fun q hq b hb => by
    rw [List.mem_singleton.mp hq]
    exact (f3 b hb).1.2.2.2.2.2 p (List.mem_append_left _ hp)) rfl T pg pe turn (fun t H5 I5 qd => ?_) ⟨0, _, I4h, st4, nfp, w0⟩
  · exact codeAny_compStart_list loop (T.self X.A 0 _ _ _ st4 loop)
  · have I6 : Inv X pins σ H5 t := I3.call' (ch := fp) I5.os I5.base I5.hok I5.bare fun b hb => ⟨(f3 b hb).1.2.2.2.1, (f3 b hb).1.2.1, (f3 b hb).1.2.2.2.2.1, (f3 b hb).1.2.2.2.2.2⟩
    have nC : H5 t3.heap.objs.size = none := I5.free
    obtain ⟨m, hn, _⟩ := I5.loc
    exact back _ _ t m H5 I6 qd hn (I3.fpOk (Nat.le_refl _) nC)
section
variable {elt tg iter : Expr} {scope : Scope} {own : List (Str × Nat)} {wi : TI} {g : TG} {te : TE}
theorem pe_lcH {pos : Pos} (hc : L2H.HotC X) (hN : X.N.Nodup) (hi : L2H.PIH X tg iter wi) (ok : BlkOk X.N X.env.scope scope own)
    (hg : ∀ (s : Shared) (H : Hp) (C : Addr) (cl : List (Str × Addr)) (fp : List Addr) (p : Addr × Obj), PG (blkH X s H scope (compEnvC scope cl C X.env) fp p) tg g)
    (he : ∀ (s : Shared) (H : Hp) (C : Addr) (cl : List (Str × Addr)) (fp : List Addr) (p : Addr × Obj), L2H.Hot1 X.A p → PE (blkH X s H scope (compEnvC scope cl C X.env) fp p) elt te) (hs : ∀ x, foldedSetIterable iter X.env x = pure x := by intro _; rfl) :
    PE X (.ListComp elt [⟨tg, iter, [], 0⟩] scope pos) (tLc wi g tYes te (own.map (·.2))) := by
  constructor
  intro pins s σ H Q I h
  rw [eval_ListComp]
  refine lc_coreH hc I hN hi ok hg he hs h ?_
  intro D C t m H5 I6 qd hn fpk
  obtain ⟨f0, f1, f4, f5, f6, f7⟩ := fpk
  exact ⟨m, hn, fun h2 sb => ⟨.ref D, H5, I6.turned (t' := t.toks) (fun b o hb e => (sb.2 b hb).trans e) f0 f1 f5 f6 f7, rfl, qd⟩⟩
/-- name = [..] on one line, the name a local -/
theorem ps_setLcH {i : Nat} {y : Str} {py : Pos} {pos spos : Pos} (hc : L2H.HotC X) (hN : X.N.Nodup) (hy : X.N[i]? = some y) (hyl : X.env.scope.names.lookup y = some .local)
    (hsw : swapsWith (.ListComp elt [⟨tg, iter, [], 0⟩] scope pos) (some (.Name y py)) spos.line X.env = pure true) (hi : L2H.PIH X tg iter wi) (ok : BlkOk X.N X.env.scope scope own)
    (hg : ∀ (s : Shared) (H : Hp) (C : Addr) (cl : List (Str × Addr)) (fp : List Addr) (p : Addr × Obj), PG (blkH X s H scope (compEnvC scope cl C X.env) fp p) tg g)
    (he : ∀ (s : Shared) (H : Hp) (C : Addr) (cl : List (Str × Addr)) (fp : List Addr) (p : Addr × Obj), L2H.Hot1 X.A p → PE (blkH X s H scope (compEnvC scope cl C X.env) fp p) elt te) (hs : ∀ x, foldedSetIterable iter X.env x = pure x := by intro _; rfl) :
    PS X (.Assign [.Name y py] (.ListComp elt [⟨tg, iter, [], 0⟩] scope pos) spos) (tAsg (tLc wi g tYes te (own.map (·.2))) (gName i)) := by
  constructor
  intro pins s σ H D I h
  rw [exec_Assign_Name_used _ _ _ _ hsw]
  refine wpAny_bind (wpAny_standAt (wpAny_bind ?_))
  change wpAny _ X.A (do let _ ← comprehension (.ListComp elt [⟨tg, iter, [], 0⟩] scope pos) scope X.env (firstIterPos [⟨tg, iter, [], 0⟩] pos) (newList []) false (eval iter X.env) (some (assign (.Name y py) X.env))) _ _ s
  have h : tLc wi g tYes te (own.map (·.2)) σ H (fun x H1 => gName i x σ H1 D.nx) := h
  refine wpAny_bind (thn (lc_coreH (Qf := fun _ t => SP X pins D .next t) hc I hN hi ok hg he hs h ?_) fun _ t ht => wpAny_pure (wpAny_pure ht))
  intro L C t m H5 I6 q hn fpk
  change wpAny _ _ (assign (.Name y py) X.env (.ref L)) _ _ _
  refine wpAny_assign_Name (store_ok2 (v := V.ref L) I6 hN hy (.inl hyl) rfl (fun t2 I2 ⟨a, sb, ha⟩ => ?_) (.inr hyl))
  obtain ⟨f0, f1, f2, f3, f4, f5⟩ := fpk
  have apart : C ≠ a := by
    rcases ha with z | z
    · rw [z]; exact f1
    · exact fun e => f4 y a z e.symm
  exact ⟨m, hn.sameBut sb apart, fun h3 sb3 => ⟨_, H5, I2.turned (t' := t2.toks) (fun b o hb e => (sb3.2 b hb).trans e) f0 f1 f3 f4 f5, q⟩⟩
end
end
/-- a def that is called while an error is handled -/
structure ClH (P : Program) (w : World) (K : PySem.W.Frag) (mg : Str → Option Value) (base : Heap) (k : Nat) (x : Str) (sp : Sp) : Prop where
  ex : ∃ (f : Addr) (fd : FuncData) (ps : List Str), L2H.FnH P w K mg base CX0 k f fd ps sp ∧ mg x = some (.ref f) ∧ PySem.W.keepIn K (.ref f) = true ∧ Binds K fd ps []
theorem pe_clH {X : Cx} {k j : Nat} {x : Str} {sp : Sp} {p pos : Pos} {e : Expr} {es : List Expr} {t : TA} (c : ClH X.prog X.w X.K X.mg X.base k x sp) (room : L2H.RoomH j X.A) (le : k ≤ j) (hot : L2H.HotC X) (gl : Gl X x) (args : PA X (e :: es) t)
    (hdb : (x == ("__debug__" : Str)) = false := by decide) (st : starEach (e :: es) X.env = (false, eval e X.env) :: starEach es X.env := by rfl) (pl2 : (backTo pos (starEach es X.env)).any (·.1) = false := by rfl) :
    PE X (.Call (.Name x p) (e :: es) [] pos) (tCall sp [] E0 t) := by
  obtain ⟨g, gd, prs, ok, hm, kp, bnd⟩ := c.ex
  constructor
  intro pins s σ H Q inv q0
  apply wpAny_Call_Name_kw
  refine ld_glob inv gl hm ?_ hdb
  refine PySem.W.callWith_K (h₀ := X.base) inv.ok.mod.kin kp (thn (args.run pos pins s σ H _ inv q0) ?_) st pl2
  rintro us s1 ⟨vs, H1, inv1, rel, q1⟩
  rw [List.append_nil] at q1
  exact ⟨inv1.kIn, L2H.run_fnH (E := fun _ => E0) ok ⟨(room.mono le).dp, (room.mono le).un⟩ hot bnd (fun _ _ _ _ _ _ z => z.elim) inv1 rel q1⟩
/-! several clauses with a name; the error's context is None -/
inductive HdsN (X : Cx) (n : Str) : List ExceptHandler → List (Value × (Addr → Value → Option Addr → TS)) → Prop
  | nil : HdsN X n [] []
  | cons {x : Str} {c : Value} {ts : Addr → Value → Option Addr → TS} {b₀ : Stmt} {suite : List Stmt} {np pos' : Pos} {hds : List ExceptHandler} {l : List (Value × (Addr → Value → Option Addr → TS))} (hc : Names X x c)
      (hsu : ∀ (a : Addr) (oe : Obj) (cls : Value) (d : Option Addr) (pn : List (Addr × Obj)), L2N.Zn cls d oe → (∃ vs, oe.data = .fields vs) → PSs (X.suite a ((a, oe) :: pn)) (b₀ :: suite) (ts a cls d)) (r : HdsN X n hds l) :
      HdsN X n (.ExceptHandler (some (.Name x np)) (some n) (b₀ :: suite) pos' :: hds) ((c, ts) :: l)
section
variable {X : Cx} {body : List Stmt} {h₀ : ExceptHandler} {hds : List ExceptHandler} {l : List (Value × (Addr → Value → Option Addr → TS))} {pos : Pos} {tb : WX → TS} {Wout : WX} {n : Str} {i : Nat}
theorem ps_try_manyN (hs : X.stack = X.env :: X.outer) (hf : X.env.frame = some X.env.locals) (hN : X.N.Nodup) (hi : X.N[i]? = some n) (hln : X.env.kindOf n = some .local) (tk : L2N.Takes X Wout)
    (hb : ∀ (W : WX) (pn : List (Addr × Obj)) (xe : Value → Shared → Prop), L2N.Takes (X.tr pn xe) W → PassesOwn (model X.prog X.w) X.A X.env xe → PSs (X.tr pn xe) body (tb W))
    (hh : HdsN X n (h₀ :: hds) l) : PS X (.Try body (h₀ :: hds) [] [] pos) (fun D σ H => tb (wManyAs X.K i Wout D l) D σ H) := by
  refine ⟨fun pins s σ H D I h => ?_⟩
  have ok := I.ok
  have hfr : X.A.frames = some (X.env :: X.outer) := by rw [ok.frames, hs]
  have hloc : Loc X.env.scope n := .inl hln
  refine wpAny_Try_except ?_
  refine wpAny_mono ((hb (wManyAs X.K i Wout D l) (X.pn ++ pins) (fun e s₁ => wpAny (model X.prog X.w) X.A (noteFrame e X.env) (fun _ s₂ => wpAny (model X.prog X.w) X.A (setFlight e none) (fun _ s₃ =>
    wpAny (model X.prog X.w) X.A (handleBy e X.env (h₀ :: hds)) (SP X pins D) X.xe s₃) X.xe s₂) X.xe s₁) (fun u s' xx => ?_) PassesOwn.looking).run [] s σ H D (I.toTry _) h) (fun f s1 hsp => ?_) (fun e s1 he => he)
  · obtain ⟨a, B, sI, pins', σ', H', cls, d, rfl, J', nb, up, sky, na, os, ag, w⟩ := xx
    have J : Inv X pins σ' H' sI := J'.ofTry ok
    have sky' : Sky B (X.env :: X.outer) a (L2N.Zn cls d) X.env.locals s'.heap := by rw [← hs]; exact sky
    show wpAny (model X.prog X.w) X.A (noteFrame (.ref a) X.env) _ _ _
    refine L2N.Sky.land L2N.Zn.steady hfr hf sky' fun h3 fl3 up3 => ?_
    have J3 : Inv X pins σ' H' { s' with heap := h3 } := J.landed nb fl3.1 (up.trans up3) os ag
    obtain ⟨oe3, vs3, he3, hz3, hd3⟩ := fl3.there
    have notFr : ∀ {h : Heap} {o : Obj} {vs : Array Value}, h.FunFrames B (X.env :: X.outer) → h.get? a = some o → o.data = .fields vs → a ∉ frs (X.env :: X.outer) := fun {h o vs} ff e dd hm => by
      obtain ⟨_, o', e', hnf⟩ := ff.mem hm
      rw [e] at e'; cases e'
      exact hnf _ dd
    have nfr := notFr fl3.2.2.1 he3 hd3
    have nL : a ≠ X.env.locals := fun z => nfr (List.mem_filterMap.mpr ⟨X.env, List.mem_cons_self, by rw [hf, z]⟩)
    have nF : a ∉ X.fs := fun hm => by
      obtain ⟨e, he, q⟩ := List.mem_filterMap.mp hm
      exact nfr (List.mem_filterMap.mpr ⟨e, List.mem_cons_of_mem _ he, q⟩)
    have S3 := J3.suite he3 hd3 na nL nF
    have go : ∀ {hds' : List ExceptHandler} {l' : List (Value × (Addr → Value → Option Addr → TS))}, HdsN X n hds' l' → wManyAs X.K i Wout D l' cls d σ' H' →
        wpAny (model X.prog X.w) X.A (handleBy (.ref a) X.env hds') (SP X pins D) X.xe { s' with heap := h3 } := by
      intro hds' l' hk
      induction hk with
      | nil =>
        intro w
        refine wpAny_handleBy_nil ?_
        obtain ⟨k1, k2, k3, oe, vs, T, oT, ts', he, hz, hd, h1, hr⟩ := id fl3
        unfold PySem.passOn
        refine wpAny_bind (wpAny_field he hd h1 ?_)
        rw [if_neg (show ¬ ((Value.ref T == Value.none) = true) from by simp)]
        have fin : wpAny (model X.prog X.w) X.A (setFlight (.ref a) X.env.frame) (fun _ s4 => wpAny (model X.prog X.w) X.A (throw (.ref a) : Sem Flow) (SP X pins D) X.xe s4) X.xe { s' with heap := h3 } := by
          rw [hf]
          refine HandSPX.setFlight_upZ fl3 fun h4 hh4 up4 => wpAny_throw (tk _ _ ?_)
          exact ⟨a, B, sI, pins, σ', H', cls, d, rfl, J, nb, (up.trans up3).trans up4, .inr (.inr (by rw [hs]; exact hh4)), na, os, ag, w⟩
        first
          | exact wpAny_bind (wpAny_pure (wpAny_bind fin))
          | exact wpAny_bind fin
      | @cons x c ts b₀ suite np pos' hds2 l2 hc hsu r ih =>
        intro w
        obtain ⟨b, hb1, hyes, hno⟩ := w
        refine wpAny_handleBy_cons (codeAny_handlers_test ?_) (by intro q; cases q)
        have LT : PySem.W.Looks (model X.prog X.w) h3 (typeOf (.ref a)) cls := fun A Q E s k q => wpAny_typeOf_ref (k _ _ he3) (by rw [hz3.1]; exact q)
        have LM := PySem.W.exm_one (M := model X.prog X.w) (J3.kIn) LT hb1
        have test : ∀ {Q : Value → Shared → Prop} {E : Value → Shared → Prop}, Q c { s' with heap := h3 } → wpAny (model X.prog X.w) (X.A.mark (some (.ref a))) (eval (.Name x np) X.env) Q E { s' with heap := h3 } := fun {Q E} q => by
          obtain ⟨hg, hdbg, hm | ⟨hm, hv, hnn⟩⟩ := hc
          · exact ld_glob (X := X.suite a ((a, oe3) :: (X.pn ++ pins))) S3 hg hm q hdbg
          · exact ld_blt (X := X.suite a ((a, oe3) :: (X.pn ++ pins))) S3 hg hm hv q hnn hdbg
        refine test (LM.here ?_)
        cases b with
        | true =>
          refine codeAny_handlers_suite_as ?_
          refine HandSPX.lands_againZ fl3 fun h4 fl4 up4 => ?_
          have J4 : Inv X pins σ' H' { s' with heap := h4 } := J.landed nb fl4.1 ((up.trans up3).trans up4) os ag
          obtain ⟨oe4, vs4, he4, hz4, hd4⟩ := fl4.there
          have S4 := J4.suite he4 hd4 na nL nF
          refine store_ok (X := X.suite a ((a, oe4) :: (X.pn ++ pins))) (v := .ref a) S4 hN hi hloc rfl (fun s5 S5 => ?_) (.inr hln)
          refine wpAny_mono ((hsu a oe4 cls d (X.pn ++ pins) hz4 ⟨_, hd4⟩).run [] s5 _ H' _ S5 (hyes rfl a na)) (fun f s6 hsp => ?_) (fun _ _ z => False.elim z)
          have end_ : ∀ {σ6 : L2.St} {H6 : Hp} {Q : Shared → Prop}, Inv (X.suite a ((a, oe4) :: (X.pn ++ pins))) [] σ6 H6 s6 → (∀ s7, Inv X pins (σ6.set i none) H6 s7 → Q s7) →
              wpAny (model X.prog X.w) X.A (do bindName X.env n .none; unbindBehindTheSuite X.env n pos') (fun _ s7 => Q s7) X.xe s6 := fun {σ6 H6 Q} S6 hq => gone_ok (S6.unsuite ok) hN hi hln hq
          cases f with
          | next =>
            obtain ⟨σ6, H6, S6, q6⟩ := hsp
            exact end_ S6 fun s7 J7 => ⟨_, _, J7, q6⟩
          | brk =>
            obtain ⟨σ6, H6, S6, q6⟩ := hsp
            exact end_ S6 fun s7 J7 => ⟨_, _, J7, q6⟩
          | cont =>
            obtain ⟨σ6, H6, S6, q6⟩ := hsp
            exact end_ S6 fun s7 J7 => ⟨_, _, J7, q6⟩
          | ret u =>
            obtain ⟨v6, σ6, H6, S6, r6, q6⟩ := hsp
            exact end_ S6 fun s7 J7 => ⟨_, _, _, J7, r6, q6⟩
        | false =>
          show wpAny _ X.A (handleBy (.ref a) X.env hds2) _ _ _
          exact ih (hno rfl)
    exact go hh w
  · cases f with
    | next =>
      obtain ⟨σ', H', J', q⟩ := hsp
      exact wpAny_execs_nil ⟨σ', H', J'.ofTry ok, q⟩
    | brk =>
      obtain ⟨σ', H', J', q⟩ := hsp
      exact ⟨σ', H', J'.ofTry ok, q⟩
    | cont =>
      obtain ⟨σ', H', J', q⟩ := hsp
      exact ⟨σ', H', J'.ofTry ok, q⟩
    | ret u =>
      obtain ⟨v, σ', H', J', r, q⟩ := hsp
      exact ⟨v, σ', H', J'.ofTry ok, r, q⟩
end
end Kn
namespace Kn
open PySem PySem.Spec PyProof.Rows L2
theorem hot_top {CX : CXT} {P : Program} {w : World} {K : PySem.W.Frag} {mg : Str → Option Value} {base : Heap} {N : List Str} {qual : Str} {scope : Scope} {f : Addr} {cd : Value} {A : Around} {outer : List Env} {s : Shared} {H : Hp} {E : XK} {p : Addr × Obj} (h : L2H.Hot1 A p) : L2H.HotC (L2H.cxH CX P w K mg base N qual scope f cd A outer s H E p) :=
  ⟨p, ⟨h.1, h.2⟩, List.mem_cons_self⟩
theorem hot_blk {X : Cx} {s : Shared} {H : Hp} {scope : Scope} {cenv : Env} {fp : List Addr} {p : Addr × Obj} (h : L2H.Hot1 X.A p) : L2H.HotC (blkH X s H scope cenv fp p) := ⟨p, ⟨h.1, h.2⟩, List.mem_cons_self⟩
end Kn
theorem Kn.roomH_units {k : Nat} {A : PySem.Around} (r : L2H.RoomH k A) : A.units + 64 < PySem.cLine := by
  have := r.un
  omega

namespace My
open PySem PySem.Spec PyProof.Rows L2 Evl SX Kn
def topS (i : Nat) : Stmt := PySem.Challenge.pw_kilnyard_k44_records_of_a_store.main.body.getD i (.Pass ⟨0, 0, 0, 0⟩)
abbrev s__wall : Stmt := topS 0
abbrev N__wall : List Str := ["k"]
theorem sc__wall : FnScope N__wall ["k"] (defScope s__wall) := ⟨rfl, rfl, rfl, by decide +kernel, rfl, by decide +kernel, by decide +kernel⟩
abbrev s_content_key : Stmt := topS 4
abbrev N_content_key : List Str := ["text", "sign"]
theorem sc_content_key : FnScope N_content_key ["text"] (defScope s_content_key) := ⟨rfl, rfl, rfl, by decide +kernel, rfl, by decide +kernel, by decide +kernel⟩
abbrev s_is_path : Stmt := topS 9
abbrev N_is_path : List Str := ["value", "names", "name"]
theorem sc_is_path : FnScope N_is_path ["value"] (defScope s_is_path) := ⟨rfl, rfl, rfl, by decide +kernel, rfl, by decide +kernel, by decide +kernel⟩
abbrev s_is_pattern : Stmt := topS 10
abbrev N_is_pattern : List Str := ["value"]
theorem sc_is_pattern : FnScope N_is_pattern ["value"] (defScope s_is_pattern) := ⟨rfl, rfl, rfl, by decide +kernel, rfl, by decide +kernel, by decide +kernel⟩
abbrev s_is_name_pattern : Stmt := topS 11
abbrev N_is_name_pattern : List Str := ["value"]
theorem sc_is_name_pattern : FnScope N_is_name_pattern ["value"] (defScope s_is_name_pattern) := ⟨rfl, rfl, rfl, by decide +kernel, rfl, by decide +kernel, by decide +kernel⟩
abbrev s__is_name : Stmt := topS 12
abbrev N__is_name : List Str := ["name", "sign"]
theorem sc__is_name : FnScope N__is_name ["name"] (defScope s__is_name) := ⟨rfl, rfl, rfl, by decide +kernel, rfl, by decide +kernel, by decide +kernel⟩
abbrev s_is_identifier : Stmt := topS 22
abbrev N_is_identifier : List Str := ["value", "sign"]
theorem sc_is_identifier : FnScope N_is_identifier ["value"] (defScope s_is_identifier) := ⟨rfl, rfl, rfl, by decide +kernel, rfl, by decide +kernel, by decide +kernel⟩
abbrev s_question : Stmt := topS 31
abbrev N_question : List Str := ["need"]
theorem sc_question : FnScope N_question ["need"] (defScope s_question) := ⟨rfl, rfl, rfl, by decide +kernel, rfl, by decide +kernel, by decide +kernel⟩
abbrev s_format_record : Stmt := topS 32
abbrev N_format_record : List Str := ["record", "needs", "results", "words", "need", "key"]
theorem sc_format_record : FnScope N_format_record ["record"] (defScope s_format_record) := ⟨rfl, rfl, rfl, by decide +kernel, rfl, by decide +kernel, by decide +kernel⟩
abbrev s_parse_record : Stmt := topS 33
abbrev N_parse_record : List Str := ["line", "words", "outputs", "needs", "results", "word"]
theorem sc_parse_record : FnScope N_parse_record ["line"] (defScope s_parse_record) := ⟨rfl, rfl, rfl, by decide +kernel, rfl, by decide +kernel, by decide +kernel⟩
abbrev s__format_need : Stmt := topS 34
abbrev N__format_need : List Str := ["need"]
theorem sc__format_need : FnScope N__format_need ["need"] (defScope s__format_need) := ⟨rfl, rfl, rfl, by decide +kernel, rfl, by decide +kernel, by decide +kernel⟩
abbrev s__format_seen : Stmt := topS 35
abbrev N__format_seen : List Str := ["seen"]
theorem sc__format_seen : FnScope N__format_seen ["seen"] (defScope s__format_seen) := ⟨rfl, rfl, rfl, by decide +kernel, rfl, by decide +kernel, by decide +kernel⟩
abbrev s__parse_need : Stmt := topS 36
abbrev N__parse_need : List Str := ["word", "items"]
theorem sc__parse_need : FnScope N__parse_need ["word"] (defScope s__parse_need) := ⟨rfl, rfl, rfl, by decide +kernel, rfl, by decide +kernel, by decide +kernel⟩
abbrev s__parse_seen : Stmt := topS 37
abbrev N__parse_seen : List Str := ["word"]
theorem sc__parse_seen : FnScope N__parse_seen ["word"] (defScope s__parse_seen) := ⟨rfl, rfl, rfl, by decide +kernel, rfl, by decide +kernel, by decide +kernel⟩
abbrev s__are_outputs : Stmt := topS 38
abbrev N__are_outputs : List Str := ["words", "word"]
theorem sc__are_outputs : FnScope N__are_outputs ["words"] (defScope s__are_outputs) := ⟨rfl, rfl, rfl, by decide +kernel, rfl, by decide +kernel, by decide +kernel⟩
abbrev s__are_needs : Stmt := topS 39
abbrev N__are_needs : List Str := ["words", "questions", "word"]
theorem sc__are_needs : FnScope N__are_needs ["words"] (defScope s__are_needs) := ⟨rfl, rfl, rfl, by decide +kernel, rfl, by decide +kernel, by decide +kernel⟩
abbrev s__is_need : Stmt := topS 40
abbrev N__is_need : List Str := ["word", "items", "kind", "seen"]
theorem sc__is_need : FnScope N__is_need ["word"] (defScope s__is_need) := ⟨rfl, rfl, rfl, by decide +kernel, rfl, by decide +kernel, by decide +kernel⟩
abbrev s__is_folder : Stmt := topS 41
abbrev N__is_folder : List Str := ["word"]
theorem sc__is_folder : FnScope N__is_folder ["word"] (defScope s__is_folder) := ⟨rfl, rfl, rfl, by decide +kernel, rfl, by decide +kernel, by decide +kernel⟩
abbrev s__is_number_or_nothing : Stmt := topS 42
abbrev N__is_number_or_nothing : List Str := ["word"]
theorem sc__is_number_or_nothing : FnScope N__is_number_or_nothing ["word"] (defScope s__is_number_or_nothing) := ⟨rfl, rfl, rfl, by decide +kernel, rfl, by decide +kernel, by decide +kernel⟩
abbrev s__is_number : Stmt := topS 43
abbrev N__is_number : List Str := ["word"]
theorem sc__is_number : FnScope N__is_number ["word"] (defScope s__is_number) := ⟨rfl, rfl, rfl, by decide +kernel, rfl, by decide +kernel, by decide +kernel⟩
abbrev s__read_row : Stmt := topS 46
abbrev N__read_row : List Str := ["row", "key", "line"]
theorem sc__read_row : FnScope N__read_row ["row"] (defScope s__read_row) := ⟨rfl, rfl, rfl, by decide +kernel, rfl, by decide +kernel, by decide +kernel⟩
abbrev s__law_cell : Stmt := topS 48
abbrev N__law_cell : List Str := ["script", "k"]
theorem sc__law_cell : FnScope N__law_cell ["script", "k"] (defScope s__law_cell) := ⟨rfl, rfl, rfl, by decide +kernel, rfl, by decide +kernel, by decide +kernel⟩
abbrev s__law_numbers : Stmt := topS 49
abbrev N__law_numbers : List Str := ["cell", "count", "rest", "large", "mixed", "row", "k"]
theorem sc__law_numbers : FnScope N__law_numbers ["cell", "count"] (defScope s__law_numbers) := ⟨rfl, rfl, rfl, by decide +kernel, rfl, by decide +kernel, by decide +kernel⟩
abbrev s__law_path : Stmt := topS 50
abbrev N__law_path : List Str := ["n", "letters", "names", "k"]
theorem sc__law_path : FnScope N__law_path ["n"] (defScope s__law_path) := ⟨rfl, rfl, rfl, by decide +kernel, rfl, by decide +kernel, by decide +kernel⟩
abbrev s__law_text : Stmt := topS 51
abbrev N__law_text : List Str := ["n", "parts"]
theorem sc__law_text : FnScope N__law_text ["n"] (defScope s__law_text) := ⟨rfl, rfl, rfl, by decide +kernel, rfl, by decide +kernel, by decide +kernel⟩
abbrev s__law_need : Stmt := topS 52
abbrev N__law_need : List Str := ["n", "k", "key", "kind"]
theorem sc__law_need : FnScope N__law_need ["n", "k"] (defScope s__law_need) := ⟨rfl, rfl, rfl, by decide +kernel, rfl, by decide +kernel, by decide +kernel⟩
abbrev s__law_record : Stmt := topS 53
abbrev N__law_record : List Str := ["cell", "job", "numbers", "outputs", "needs", "results", "k"]
theorem sc__law_record : FnScope N__law_record ["cell", "job"] (defScope s__law_record) := ⟨rfl, rfl, rfl, by decide +kernel, rfl, by decide +kernel, by decide +kernel⟩
abbrev s__law_one : Stmt := topS 54
abbrev N__law_one : List Str := ["store", "kept", "index", "record", "e"]
theorem sc__law_one : FnScope N__law_one ["store", "kept", "index"] (defScope s__law_one) := ⟨rfl, rfl, rfl, by decide +kernel, rfl, by decide +kernel, by decide +kernel⟩
abbrev s__law_found : Stmt := topS 55
abbrev N__law_found : List Str := ["store", "kept", "probe", "due", "k", "index", "record", "whole", "told"]
theorem sc__law_found : FnScope N__law_found ["store", "kept", "probe"] (defScope s__law_found) := ⟨rfl, rfl, rfl, by decide +kernel, rfl, by decide +kernel, by decide +kernel⟩
abbrev s__law_harm : Stmt := topS 56
abbrev N__law_harm : List Str := ["store", "kept", "n", "index", "line", "there", "e"]
theorem sc__law_harm : FnScope N__law_harm ["store", "kept", "n", "index"] (defScope s__law_harm) := ⟨rfl, rfl, rfl, by decide +kernel, rfl, by decide +kernel, by decide +kernel⟩
abbrev s_law : Stmt := topS 57
abbrev N_law : List Str := ["script", "store", "second", "kept", "k", "row", "record", "told", "index", "line", "due"]
theorem sc_law : FnScope N_law ["script"] (defScope s_law) := ⟨rfl, rfl, rfl, by decide +kernel, rfl, by decide +kernel, by decide +kernel⟩
abbrev s_InvalidRecord___init__ : Stmt := inClass (topS 14) 0
abbrev N_InvalidRecord___init__ : List Str := ["self", "line"]
theorem sc_InvalidRecord___init__ : FnScope N_InvalidRecord___init__ ["self", "line"] (defScope s_InvalidRecord___init__) := ⟨rfl, rfl, rfl, by decide +kernel, rfl, by decide +kernel, by decide +kernel⟩
abbrev s_MissingContent___init__ : Stmt := inClass (topS 15) 0
abbrev N_MissingContent___init__ : List Str := ["self", "key"]
theorem sc_MissingContent___init__ : FnScope N_MissingContent___init__ ["self", "key"] (defScope s_MissingContent___init__) := ⟨rfl, rfl, rfl, by decide +kernel, rfl, by decide +kernel, by decide +kernel⟩
abbrev s_NoSuchRecord___init__ : Stmt := inClass (topS 16) 0
abbrev N_NoSuchRecord___init__ : List Str := ["self", "index"]
theorem sc_NoSuchRecord___init__ : FnScope N_NoSuchRecord___init__ ["self", "index"] (defScope s_NoSuchRecord___init__) := ⟨rfl, rfl, rfl, by decide +kernel, rfl, by decide +kernel, by decide +kernel⟩
abbrev s_DamagedRecord___init__ : Stmt := inClass (topS 17) 0
abbrev N_DamagedRecord___init__ : List Str := ["self", "index"]
theorem sc_DamagedRecord___init__ : FnScope N_DamagedRecord___init__ ["self", "index"] (defScope s_DamagedRecord___init__) := ⟨rfl, rfl, rfl, by decide +kernel, rfl, by decide +kernel, by decide +kernel⟩
abbrev s_Record___init__ : Stmt := inClass (topS 30) 0
abbrev N_Record___init__ : List Str := ["self", "outputs", "rule_key", "needs", "results"]
theorem sc_Record___init__ : FnScope N_Record___init__ ["self", "outputs", "rule_key", "needs", "results"] (defScope s_Record___init__) := ⟨rfl, rfl, rfl, by decide +kernel, rfl, by decide +kernel, by decide +kernel⟩
abbrev s_Record___eq__ : Stmt := inClass (topS 30) 1
abbrev N_Record___eq__ : List Str := ["self", "other"]
theorem sc_Record___eq__ : FnScope N_Record___eq__ ["self", "other"] (defScope s_Record___eq__) := ⟨rfl, rfl, rfl, by decide +kernel, rfl, by decide +kernel, by decide +kernel⟩
abbrev s_Store___init__ : Stmt := inClass (topS 45) 0
abbrev N_Store___init__ : List Str := ["self", "journal"]
theorem sc_Store___init__ : FnScope N_Store___init__ ["self", "journal"] (defScope s_Store___init__) := ⟨rfl, rfl, rfl, by decide +kernel, rfl, by decide +kernel, by decide +kernel⟩
abbrev s_Store_put_content : Stmt := inClass (topS 45) 1
abbrev N_Store_put_content : List Str := ["self", "text"]
theorem sc_Store_put_content : FnScope N_Store_put_content ["self", "text"] (defScope s_Store_put_content) := ⟨rfl, rfl, rfl, by decide +kernel, rfl, by decide +kernel, by decide +kernel⟩
abbrev s_Store_content : Stmt := inClass (topS 45) 2
abbrev N_Store_content : List Str := ["self", "key"]
theorem sc_Store_content : FnScope N_Store_content ["self", "key"] (defScope s_Store_content) := ⟨rfl, rfl, rfl, by decide +kernel, rfl, by decide +kernel, by decide +kernel⟩
abbrev s_Store_has_content : Stmt := inClass (topS 45) 3
abbrev N_Store_has_content : List Str := ["self", "key"]
theorem sc_Store_has_content : FnScope N_Store_has_content ["self", "key"] (defScope s_Store_has_content) := ⟨rfl, rfl, rfl, by decide +kernel, rfl, by decide +kernel, by decide +kernel⟩
abbrev s_Store_add_record : Stmt := inClass (topS 45) 4
abbrev N_Store_add_record : List Str := ["self", "record", "line"]
theorem sc_Store_add_record : FnScope N_Store_add_record ["self", "record"] (defScope s_Store_add_record) := ⟨rfl, rfl, rfl, by decide +kernel, rfl, by decide +kernel, by decide +kernel⟩
abbrev s_Store_record : Stmt := inClass (topS 45) 5
abbrev N_Store_record : List Str := ["self", "index", "found"]
theorem sc_Store_record : FnScope N_Store_record ["self", "index"] (defScope s_Store_record) := ⟨rfl, rfl, rfl, by decide +kernel, rfl, by decide +kernel, by decide +kernel⟩
abbrev s_Store_find_records : Stmt := inClass (topS 45) 6
abbrev N_Store_find_records : List Str := ["self", "outputs", "rule_key", "start", "found", "index", "row"]
theorem sc_Store_find_records : FnScope N_Store_find_records ["self", "outputs", "rule_key"] (defScope s_Store_find_records) := ⟨rfl, rfl, rfl, by decide +kernel, rfl, by decide +kernel, by decide +kernel⟩
abbrev s_Store_lose_content : Stmt := inClass (topS 45) 7
abbrev N_Store_lose_content : List Str := ["self", "key"]
theorem sc_Store_lose_content : FnScope N_Store_lose_content ["self", "key"] (defScope s_Store_lose_content) := ⟨rfl, rfl, rfl, by decide +kernel, rfl, by decide +kernel, by decide +kernel⟩
abbrev s_Store_damage_content : Stmt := inClass (topS 45) 8
abbrev N_Store_damage_content : List Str := ["self", "key", "text"]
theorem sc_Store_damage_content : FnScope N_Store_damage_content ["self", "key", "text"] (defScope s_Store_damage_content) := ⟨rfl, rfl, rfl, by decide +kernel, rfl, by decide +kernel, by decide +kernel⟩
abbrev s_Store_lose_record : Stmt := inClass (topS 45) 9
abbrev N_Store_lose_record : List Str := ["self", "index"]
theorem sc_Store_lose_record : FnScope N_Store_lose_record ["self", "index"] (defScope s_Store_lose_record) := ⟨rfl, rfl, rfl, by decide +kernel, rfl, by decide +kernel, by decide +kernel⟩
abbrev s_Store_damage_record : Stmt := inClass (topS 45) 10
abbrev N_Store_damage_record : List Str := ["self", "index", "line"]
theorem sc_Store_damage_record : FnScope N_Store_damage_record ["self", "index", "line"] (defScope s_Store_damage_record) := ⟨rfl, rfl, rfl, by decide +kernel, rfl, by decide +kernel, by decide +kernel⟩
abbrev s_Store_content_keys : Stmt := inClass (topS 45) 11
abbrev N_Store_content_keys : List Str := ["self"]
theorem sc_Store_content_keys : FnScope N_Store_content_keys ["self"] (defScope s_Store_content_keys) := ⟨rfl, rfl, rfl, by decide +kernel, rfl, by decide +kernel, by decide +kernel⟩
abbrev s_Store_record_count : Stmt := inClass (topS 45) 12
abbrev N_Store_record_count : List Str := ["self"]
theorem sc_Store_record_count : FnScope N_Store_record_count ["self"] (defScope s_Store_record_count) := ⟨rfl, rfl, rfl, by decide +kernel, rfl, by decide +kernel, by decide +kernel⟩
abbrev s_Store_twin : Stmt := inClass (topS 45) 13
abbrev N_Store_twin : List Str := ["self"]
theorem sc_Store_twin : FnScope N_Store_twin ["self"] (defScope s_Store_twin) := ⟨rfl, rfl, rfl, by decide +kernel, rfl, by decide +kernel, by decide +kernel⟩
abbrev s_Store_kept_texts : Stmt := inClass (topS 45) 14
abbrev N_Store_kept_texts : List Str := ["self"]
theorem sc_Store_kept_texts : FnScope N_Store_kept_texts ["self"] (defScope s_Store_kept_texts) := ⟨rfl, rfl, rfl, by decide +kernel, rfl, by decide +kernel, by decide +kernel⟩
abbrev s_Store_kept_records : Stmt := inClass (topS 45) 15
abbrev N_Store_kept_records : List Str := ["self"]
theorem sc_Store_kept_records : FnScope N_Store_kept_records ["self"] (defScope s_Store_kept_records) := ⟨rfl, rfl, rfl, by decide +kernel, rfl, by decide +kernel, by decide +kernel⟩
abbrev s_Store_fill_from : Stmt := inClass (topS 45) 16
abbrev N_Store_fill_from : List Str := ["self", "texts", "rows"]
theorem sc_Store_fill_from : FnScope N_Store_fill_from ["self", "texts", "rows"] (defScope s_Store_fill_from) := ⟨rfl, rfl, rfl, by decide +kernel, rfl, by decide +kernel, by decide +kernel⟩
abbrev s_Store__check_content : Stmt := inClass (topS 45) 17
abbrev N_Store__check_content : List Str := ["self", "key"]
theorem sc_Store__check_content : FnScope N_Store__check_content ["self", "key"] (defScope s_Store__check_content) := ⟨rfl, rfl, rfl, by decide +kernel, rfl, by decide +kernel, by decide +kernel⟩
abbrev s_Store__check_kept : Stmt := inClass (topS 45) 18
abbrev N_Store__check_kept : List Str := ["self", "index"]
theorem sc_Store__check_kept : FnScope N_Store__check_kept ["self", "index"] (defScope s_Store__check_kept) := ⟨rfl, rfl, rfl, by decide +kernel, rfl, by decide +kernel, by decide +kernel⟩
structure Tx (mg : Str → Option Value) : Prop where
  b_abs : mg "abs" = none
  b_all : mg "all" = none
  b_enumerate : mg "enumerate" = none
  b_int : mg "int" = none
  b_isinstance : mg "isinstance" = none
  b_len : mg "len" = none
  b_list : mg "list" = none
  b_max : mg "max" = none
  b_min : mg "min" = none
  b_ord : mg "ord" = none
  b_range : mg "range" = none
  b_set : mg "set" = none
  b_str : mg "str" = none
  b_tuple : mg "tuple" = none
  c_MOST_NAMES : ∃ u, mg "MOST_NAMES" = some u ∧ RelV (.int 4) u
  c_NAME_LENGTH : ∃ u, mg "NAME_LENGTH" = some u ∧ RelV (.int 12) u
  c_NAME_SIGNS : ∃ u, mg "NAME_SIGNS" = some u ∧ RelV (.str (Str.ofString "abcdefghijklmnopqrstuvwxyz0123456789_.")) u
  c_IDENTIFIER_LENGTH : ∃ u, mg "IDENTIFIER_LENGTH" = some u ∧ RelV (.int 12) u
  c_LETTERS : ∃ u, mg "LETTERS" = some u ∧ RelV (.str (Str.ofString "abcdefghijklmnopqrstuvwxyz")) u
  c_IDENTIFIER_SIGNS : ∃ u, mg "IDENTIFIER_SIGNS" = some u ∧ RelV (.str (Str.ofString "abcdefghijklmnopqrstuvwxyz0123456789_")) u
  c_MOST_OUTPUTS : ∃ u, mg "MOST_OUTPUTS" = some u ∧ RelV (.int 3) u
  c_MOST_NEEDS : ∃ u, mg "MOST_NEEDS" = some u ∧ RelV (.int 60) u
  c_MOST_DIGITS : ∃ u, mg "MOST_DIGITS" = some u ∧ RelV (.int 4000) u
  c_NOTHING : ∃ u, mg "NOTHING" = some u ∧ RelV (.str (Str.ofString "-")) u
  c_YES : ∃ u, mg "YES" = some u ∧ RelV (.str (Str.ofString "yes")) u
  c_NO : ∃ u, mg "NO" = some u ∧ RelV (.str (Str.ofString "no")) u
structure Tc_Store (K : PySem.W.Frag) (C : Addr) : Prop where
  cl : Cls K C
  na_journal : NoAttr K C "journal"
  na__texts : NoAttr K C "_texts"
  na__rows : NoAttr K C "_rows"
structure Tc_Record (K : PySem.W.Frag) (C : Addr) : Prop where
  cl : Cls K C
  na_outputs : NoAttr K C "outputs"
  na_rule_key : NoAttr K C "rule_key"
  na_needs : NoAttr K C "needs"
  na_results : NoAttr K C "results"
structure Gx (K : PySem.W.Frag) (mg : Str → Option Value) where
  c_BuildError : Addr
  g_BuildError : mg "BuildError" = some (.ref c_BuildError)
  b_BuildError : Kn.BaseC K c_BuildError
  c_InvalidRecord : Addr
  g_InvalidRecord : mg "InvalidRecord" = some (.ref c_InvalidRecord)
  x_InvalidRecord : Kn.Xc K c_InvalidRecord c_BuildError
  n_InvalidRecord_line : PySem.W.findIn K (.ref c_InvalidRecord) "line" = some none
  c_NoSuchRecord : Addr
  g_NoSuchRecord : mg "NoSuchRecord" = some (.ref c_NoSuchRecord)
  x_NoSuchRecord : Kn.Xc K c_NoSuchRecord c_BuildError
  n_NoSuchRecord_index : PySem.W.findIn K (.ref c_NoSuchRecord) "index" = some none
  c_DamagedRecord : Addr
  g_DamagedRecord : mg "DamagedRecord" = some (.ref c_DamagedRecord)
  x_DamagedRecord : Kn.Xc K c_DamagedRecord c_BuildError
  n_DamagedRecord_index : PySem.W.findIn K (.ref c_DamagedRecord) "index" = some none
  m_DamagedRecord_NoSuchRecord : PySem.W.exmOne K (.ref c_DamagedRecord) (.ref c_NoSuchRecord) = some false
local macro_rules | `(tactic| walk_at "ev") => `(tactic| first
  | exact ev_c
  | exact ev_var rfl
  | exact ea_nil
  | exact eo_none
  | (apply eo_some; walk_at "ev")
  | (apply ea_cons <;> walk_at "ev")
  | (apply ev_op <;> first | walk_at "rv" | walk_at "ev")
  | (apply ev_un <;> first | exact ru_neg | walk_at "ev")
  | (apply ev_chain <;> first | walk_at "rv" | walk_at "ev")
  | (apply et_test; walk_at "ev")
  | (apply et_B; walk_at "ev")
  | (apply et_not; walk_at "ev")
  | (apply et_and; walk_at "ev"; intro _; walk_at "ev")
  | (apply et_or; walk_at "ev"; intro _; walk_at "ev")
  | (apply ev_andV; walk_at "ev"; intro _; walk_at "ev")
  | (apply ev_orV; walk_at "ev"; intro _; walk_at "ev")
  | (apply ev_notV; walk_at "ev")
  | (apply ev_cb <;> first | walk_at "rc" | walk_at "ev"))
local macro_rules | `(tactic| walk_at "rv") => `(tactic| first
  | exact rv_eqI | exact rv_neI | exact rv_eqS | exact rv_neS | exact rv_le | exact rv_lt | exact rv_ge | exact rv_gt | exact rv_inS | exact rv_ninS
  | exact rv_I0
  | exact rv_pow ⟨by decide, by decide, by decide⟩
  | exact rv_mod (by first | decide | omega)
  | exact rv_fdiv ⟨by decide, by decide⟩
  | exact rv_fdiv ⟨by omega, by omega⟩
  | exact rv_addS (by first | assumption | omega)
  | exact rv_mul (.inr ⟨by decide, by decide⟩) | exact rv_mul (.inl ⟨by decide, by decide⟩)
  | exact rv_mul (by first | exact .inl ⟨by omega, by omega⟩ | exact .inr ⟨by omega, by omega⟩)
  | exact rv_eq rfl | exact rv_ne rfl)
local macro_rules | `(tactic| walk_at "rc") => `(tactic| first
  | exact rc_abs | exact rc_int | exact rc_intB | exact rc_ord
  | exact rc_lenS (by first | assumption | omega))

section
variable {P : Program} {w : World} {K : PySem.W.Frag} {mg : Str → Option Value} {base : Heap}
theorem ok_InvalidRecord___init__ {f : Addr} {C_Store C_Record : Addr} {fd : FuncData} (F : Fun K "__init__" "InvalidRecord.__init__" s_InvalidRecord___init__ f fd) (T : Tx mg) (G : Gx K mg) (TC_Store : Tc_Store K C_Store) (TC_Record : Tc_Record K C_Record)  : FnOk P w K mg base CX0 1 f fd ["self", "line"] (sp_I1 "line" K) := by
  refine F.ok sc_InvalidRecord___init__ (fun vs H Q E h => ?_) (fun cdv A outer s H vs Q E hr h => ?_)
  · obtain ⟨a, C, l, rfl, _⟩ := h
    rfl
  · obtain ⟨a, C, l, rfl, hl, ha, oe, nf, q⟩ := h
    refine ⟨_, (pss_cons (ps_expr (Kn.pe_beinit G.b_BuildError (by rfl) G.g_BuildError (pa_cons (pv 0) (pa_cons (pe_joined (.cons pe_str (.cons (pe_fmt (pv 1)) .nil))) pa_nil))))
      (pss_one (ps_ost (pv 0) (pv 1)))), ?_⟩
    exact init1_body (l := l) (ev_js (.cons (ev_cS (l := (Str.ofString "not the written form of a record: ").cps.toList) rfl) (.cons (ev_fmtS (ev_var rfl) (by omega)) .nil)) (by show (34 + (l.length + 0)) ≤ 100000; omega)) ha oe nf fun dx H' h1 h2 m => q dx H' h1 h2 m

theorem ok_NoSuchRecord___init__ {f : Addr} {C_Store C_Record : Addr} {fd : FuncData} (F : Fun K "__init__" "NoSuchRecord.__init__" s_NoSuchRecord___init__ f fd) (T : Tx mg) (G : Gx K mg) (TC_Store : Tc_Store K C_Store) (TC_Record : Tc_Record K C_Record)  : FnOk P w K mg base CX0 1 f fd ["self", "index"] (sp_I1z "index" K) := by
  refine F.ok sc_NoSuchRecord___init__ (fun vs H Q E h => ?_) (fun cdv A outer s H vs Q E hr h => ?_)
  · obtain ⟨a, C, i, rfl, _⟩ := h
    rfl
  · obtain ⟨a, C, i, rfl, ⟨hi, hz⟩, ha, oe, nf, q⟩ := h
    refine ⟨_, (pss_cons (ps_expr (Kn.pe_beinit G.b_BuildError (by rfl) G.g_BuildError (pa_cons (pv 0) (pa_cons (pe_joined (.cons pe_str (.cons (pe_fmt (pv 1)) .nil))) pa_nil))))
      (pss_one (ps_ost (pv 0) (pv 1)))), ?_⟩
    exact init1v_body (v := .int i) (ev_js (.cons (ev_cS (l := (Str.ofString "no record ").cps.toList) rfl) (.cons (ev_fmtZ (ev_var rfl) hi) .nil)) (by show (10 + ((toString i : Str).cps.toList.length + 0)) ≤ 100000; omega)) ha oe nf fun dx H' h1 h2 m => q dx H' h1 h2 m

theorem ok_DamagedRecord___init__ {f : Addr} {C_Store C_Record : Addr} {fd : FuncData} (F : Fun K "__init__" "DamagedRecord.__init__" s_DamagedRecord___init__ f fd) (T : Tx mg) (G : Gx K mg) (TC_Store : Tc_Store K C_Store) (TC_Record : Tc_Record K C_Record)  : FnOk P w K mg base CX0 1 f fd ["self", "index"] (sp_I1z "index" K) := by
  refine F.ok sc_DamagedRecord___init__ (fun vs H Q E h => ?_) (fun cdv A outer s H vs Q E hr h => ?_)
  · obtain ⟨a, C, i, rfl, _⟩ := h
    rfl
  · obtain ⟨a, C, i, rfl, ⟨hi, hz⟩, ha, oe, nf, q⟩ := h
    refine ⟨_, (pss_cons (ps_expr (Kn.pe_beinit G.b_BuildError (by rfl) G.g_BuildError (pa_cons (pv 0) (pa_cons (pe_joined (.cons pe_str (.cons (pe_fmt (pv 1)) (.cons pe_str .nil)))) pa_nil))))
      (pss_one (ps_ost (pv 0) (pv 1)))), ?_⟩
    exact init1v_body (v := .int i) (ev_js (.cons (ev_cS (l := (Str.ofString "record ").cps.toList) rfl) (.cons (ev_fmtZ (ev_var rfl) hi) (.cons (ev_cS (l := (Str.ofString " is damaged").cps.toList) rfl) .nil))) (by show (7 + ((toString i : Str).cps.toList.length + (11 + 0))) ≤ 100000; omega)) ha oe nf fun dx H' h1 h2 m => q dx H' h1 h2 m

end
/-! ### keys, names, paths -/
open Kn.Rp
section
variable {P : Program} {w : World} {K : PySem.W.Frag} {mg : Str → Option Value} {base : Heap}
def Txl (l : List Nat) : Prop := l.length ≤ 2000 ∧ ∀ c ∈ l, c < 128
def sp_content_key (_ : PySem.W.Frag) : Sp := sp1 (fun l : List Nat => [.str (S l)]) (fun l _ => Txl l) (fun l => .int ((key l : Nat) : Int))
theorem ok_content_key {f : Addr} {C_Store C_Record : Addr} {fd : FuncData} (F : Fun K "content_key" "content_key" s_content_key f fd) (T : Tx mg) (G : Gx K mg) (TC_Store : Tc_Store K C_Store) (TC_Record : Tc_Record K C_Record)  (hdig : PySem.W.nsIn K cStatics "sys.int_max_str_digits" = some none) : FnOk P w K mg base CX0 1 f fd ["text"] (sp_content_key K) := by
  refine F.ok sc_content_key (fun vs H Q E h => ?_) (fun cdv A outer s H vs Q E hr h => ?_)
  · obtain ⟨n, rfl, _⟩ := h
    rfl
  · obtain ⟨l, rfl, ⟨hl, hlt⟩, q⟩ := h
    refine ⟨_, (pss_one (ps_ret (pe_callTy (Kn.Bi.cr_intBinL hdig) (by rfl) T.b_int (by decide +kernel) (pa_cons (pe_op Kn.op_addS pe_str (Kn.pe_joinN (pe_join pe_str (pe_lc (own := [("sign", 1)]) rfl sc_content_key.nd (pi_str (pv 0)) (blkOk_by (own := [("sign", 1)]) (N := N_content_key) (sc := defScope s_content_key) (by decide +kernel)) (fun _ _ _ _ _ => pg_name (i := 1) sc_content_key.nd rfl (Or.inl rfl)) (fun _ _ _ _ _ => pts_nil) (fun _ _ _ _ _ => (pe_joined1 (Kn.Bi.pe_fmt7 (pe_callB Kn.cr_ord (by rfl) T.b_ord (by decide +kernel) (pa_cons (pv 1) pa_nil)) (pe_joined1 pe_str)))))))) (pa_cons pe_int pa_nil))))), ?_⟩
    have hfl := flat_len l
    refine s_ret (ev_is (ev_intBinL (l := [49] ++ (l.map Bi.pad7).flatten) (ea_cons (ev_op (ev_cS (l := [49]) rfl) (ev_is (ev_join (s := []) (ys := l.map Bi.pad7) (ev_cS (l := []) rfl) ?_ ?_) (by rw [Kn.join_nil])) (rv_addS (by rw [hfl]; show 1 + _ ≤ 100000; omega))) (ea_cons ev_c ea_nil)) (by simp) (bin_all l)) (by rw [bin_key hlt])) q
    · rw [List.map_map]
      exact el_lcS (ev_var rfl) (by omega) (fun _ => rfl) fun c hc H2 e2 => ev_fmt7 (ev_cb (ea_cons (ev_var rfl) ea_nil) rc_ord) (hlt c hc)
    · rw [← List.length_flatten, hfl, List.length_nil, Nat.mul_zero]
      omega
def sp__is_name (_ : PySem.W.Frag) : Sp := sp1 (fun l : List Nat => [.str (S l)]) (fun l _ => l.length ≤ 40000) (fun l => .bl (nameOk NS l))
theorem ok__is_name {f : Addr} {C_Store C_Record : Addr} {fd : FuncData} (F : Fun K "_is_name" "_is_name" s__is_name f fd) (T : Tx mg) (G : Gx K mg) (TC_Store : Tc_Store K C_Store) (TC_Record : Tc_Record K C_Record)  : FnOk P w K mg base CX0 1 f fd ["name"] (sp__is_name K) := by
  refine F.ok sc__is_name (fun vs H Q E h => ?_) (fun cdv A outer s H vs Q E hr h => ?_)
  · obtain ⟨l, rfl, _⟩ := h
    rfl
  · obtain ⟨l, rfl, hl, q⟩ := h
    refine ⟨_, (pss_cons (ps_if (PW.pt (pw_or (pt_not (pt_chain op_le op_le pe_int (pe_callB Kn.cr_lenStr (by rfl) T.b_len PySem.boot_len (pa_cons (pv 0) pa_nil)) (C8.pe_gc (by rfl) T.c_NAME_LENGTH))) (pw_or1 (pt_val (pe_m1 PySem.F.slot_str_startswith PySem.F.type_str_startswith Kn.mt_startswith (pv 0) pe_str))))) (pss_one (ps_ret pe_bl)) pss_nil)
      (pss_one (ps_ret (pe_callB (cr_all rfl) (by rfl) T.b_all (by decide +kernel) (pa_cons (pe_lc (own := [("sign", 1)]) rfl sc__is_name.nd (pi_str (pv 0)) (blkOk_by (own := [("sign", 1)]) (N := N__is_name) (sc := defScope s__is_name) (by decide +kernel)) (fun _ _ _ _ _ => pg_name (i := 1) sc__is_name.nd rfl (Or.inl rfl)) (fun _ _ _ _ _ => pts_nil) (fun _ _ _ _ _ => (pe_cmpR op_inS (pv 1) (C8.pe_gc (by rfl) T.c_NAME_SIGNS) rfl))) pa_nil))))), ?_⟩
    refine q_when (b := !(decide (1 ≤ (l.length : Int)) && decide ((l.length : Int) ≤ 12)) || decide (l[0]? = some 46)) (et_or (et_not (et_test (ev_chain ev_c (ev_cb (ea_cons (ev_var rfl) ea_nil) (rc_lenS (by omega))) rv_le ev_c rv_le))) fun _ => et_B (ev_starts (c := 46) (ev_var rfl) (ev_cS rfl))) (fun hb H1 e1 => ?_) (fun hb H1 e1 => ?_)
    · refine s_ret ev_c fun H2 e2 => ?_
      have z : Q (.bl (nameOk NS l)) H2 := q H2 (e1.trans e2)
      unfold nameOk at z
      rw [hb] at z
      exact z
    · refine s_ret (v := .bl (l.all fun c => decide (c ∈ NS))) (ev_all (p := fun c : Nat => decide (c ∈ NS)) (el_lcS (ev_var rfl) hl (fun _ => rfl) fun c hc H2 e2 => ?_)) fun H2 e2 => ?_
      · exact ev_op (ev_var rfl) (ev_cS (l := NS) rfl) rv_inS
      · have z : Q (.bl (nameOk NS l)) H2 := q H2 (e1.trans e2)
        unfold nameOk at z
        rw [hb] at z
        exact z
def sp_is_path (_ : PySem.W.Frag) : Sp := sp1 (fun l : List Nat => [.str (S l)]) (fun l _ => l.length ≤ 30000) (fun l => .bl (pathOk l))
theorem ok_is_path {f : Addr} {C_Store C_Record : Addr} {fd : FuncData} (F : Fun K "is_path" "is_path" s_is_path f fd) (T : Tx mg) (G : Gx K mg) (TC_Store : Tc_Store K C_Store) (TC_Record : Tc_Record K C_Record) (C__is_name : Kn.Cl P w K mg base 1 "_is_name" (sp__is_name K)) : FnOk P w K mg base CX0 2 f fd ["value"] (sp_is_path K) := by
  refine F.ok sc_is_path (fun vs H Q E h => ?_) (fun cdv A outer s H vs Q E hr h => ?_)
  · obtain ⟨l, rfl, _⟩ := h
    rfl
  · obtain ⟨l, rfl, hl, q⟩ := h
    refine ⟨_, (pss_cons (ps_set (i := 1) sc_is_path.nd rfl (Or.inl rfl) (pe_m1 PySem.F.slot_str_split PySem.F.type_str_split Kn.mt_split (pv 0) pe_str))
      (pss_one (ps_ret (pe_and (pe_cmpR op_le (pe_callB Kn.cr_lenSeq (by rfl) T.b_len PySem.boot_len (pa_cons (pv 1) pa_nil)) (C8.pe_gc (by rfl) T.c_MOST_NAMES) (nomark _)) (pe_one (pe_callB (cr_all rfl) (by rfl) T.b_all (by decide +kernel) (pa_cons (pe_lc (own := [("name", 2)]) rfl sc_is_path.nd (pi_list (pv 1)) (blkOk_by (own := [("name", 2)]) (N := N_is_path) (sc := defScope s_is_path) (by decide +kernel)) (fun _ _ _ _ _ => pg_name (i := 2) sc_is_path.nd rfl (Or.inl rfl)) (fun _ _ _ _ _ => pts_nil) (fun _ _ _ _ _ => (Kn.pe_cl C__is_name hr (by decide) (by rfl) (pa_cons (pv 2) pa_nil)))) pa_nil))))))), ?_⟩
    have hc := cut1_len 47 l
    refine q_asgL (el_split (c := 47) (ev_var rfl) (ev_cS rfl) (by decide) (by omega)) fun p H1 np e1 hp => ?_
    refine s_ret (v := .bl (pathOk l)) (ev_andV (a := decide (((cut1 47 l).length : Int) ≤ 4)) (ev_is (ev_op (ev_len (ev_var rfl) (sq_of hp)) ev_c rv_le) (by rw [List.length_map])) fun _ => ev_all (p := nameOk NS) (el_lcM (g := fun p => V.str (S p)) (ev_var rfl) (sq_of hp) (by omega) (fun _ => rfl) fun n hn H2 e2 => ?_)) fun H2 e2 => q H2 (e1.trans e2)
    have := cut1_part hn
    exact ev_c1 (a := n) (by walk_at "ev") fun _ _ => (by omega)
end
section
variable {P : Program} {w : World} {K : PySem.W.Frag} {mg : Str → Option Value} {base : Heap}
def sp_is_pattern (_ : PySem.W.Frag) : Sp := sp1 (fun l : List Nat => [.str (S l)]) (fun l _ => l.length ≤ 30000) (fun l => .bl (patOk l))
theorem ok_is_pattern {f : Addr} {C_Store C_Record : Addr} {fd : FuncData} (F : Fun K "is_pattern" "is_pattern" s_is_pattern f fd) (T : Tx mg) (G : Gx K mg) (TC_Store : Tc_Store K C_Store) (TC_Record : Tc_Record K C_Record) (C_is_path : Kn.Cl P w K mg base 2 "is_path" (sp_is_path K)) : FnOk P w K mg base CX0 3 f fd ["value"] (sp_is_pattern K) := by
  refine F.ok sc_is_pattern (fun vs H Q E h => ?_) (fun cdv A outer s H vs Q E hr h => ?_)
  · obtain ⟨l, rfl, _⟩ := h
    rfl
  · obtain ⟨l, rfl, hl, q⟩ := h
    refine ⟨_, (pss_one (ps_ret (Kn.pe_andB (Kn.peb_cmpR op_eq (Kn.peb_m1 PySem.F.slot_str_count PySem.F.type_str_count Kn.mt_count (pv 0) Kn.peb_str) pe_int (nomark _)) (Kn.pet_cl C_is_path hr (by decide) (by rfl) (pat_cons (CwR.pet_replC (pv 0)) pat_nil))))), ?_⟩
    refine s_ret (v := .bl (patOk l)) (ev_andV (ev_op (ev_count (c := 42) (ev_var rfl) (ev_cS rfl)) ev_c rv_eqI) fun _ => ev_c1 (a := l.map fun e => if e = 42 then 97 else e) (ea_cons (ev_replC (c := 42) (d := 97) (ev_var rfl) (S1 _ rfl) (S1 _ rfl) (by omega)) ea_nil) fun _ _ => by rw [List.length_map]; exact hl) q
def sp_is_name_pattern (_ : PySem.W.Frag) : Sp := sp1 (fun l : List Nat => [.str (S l)]) (fun l _ => l.length ≤ 30000) (fun l => .bl (npOk l))
theorem ok_is_name_pattern {f : Addr} {C_Store C_Record : Addr} {fd : FuncData} (F : Fun K "is_name_pattern" "is_name_pattern" s_is_name_pattern f fd) (T : Tx mg) (G : Gx K mg) (TC_Store : Tc_Store K C_Store) (TC_Record : Tc_Record K C_Record) (C_is_pattern : Kn.Cl P w K mg base 3 "is_pattern" (sp_is_pattern K)) : FnOk P w K mg base CX0 4 f fd ["value"] (sp_is_name_pattern K) := by
  refine F.ok sc_is_name_pattern (fun vs H Q E h => ?_) (fun cdv A outer s H vs Q E hr h => ?_)
  · obtain ⟨l, rfl, _⟩ := h
    rfl
  · obtain ⟨l, rfl, hl, q⟩ := h
    refine ⟨_, (pss_one (ps_ret (pe_and (pe_cmpR op_notInS pe_str (pv 0) rfl) (pe_one (Kn.pe_cl C_is_pattern hr (by decide) (by rfl) (pa_cons (pv 0) pa_nil)))))), ?_⟩
    exact s_ret (v := .bl (npOk l)) (ev_andV (ev_op (ev_cS (l := [47]) rfl) (ev_var rfl) rv_ninS) fun _ => ev_c1 (a := l) (ea_cons (ev_var rfl) ea_nil) fun _ _ => hl) q
def sp_is_identifier (_ : PySem.W.Frag) : Sp := sp1 (fun l : List Nat => [.str (S l)]) (fun l _ => l.length ≤ 40000) (fun l => .bl (idOk l))
theorem ok_is_identifier {f : Addr} {C_Store C_Record : Addr} {fd : FuncData} (F : Fun K "is_identifier" "is_identifier" s_is_identifier f fd) (T : Tx mg) (G : Gx K mg) (TC_Store : Tc_Store K C_Store) (TC_Record : Tc_Record K C_Record)  : FnOk P w K mg base CX0 1 f fd ["value"] (sp_is_identifier K) := by
  refine F.ok sc_is_identifier (fun vs H Q E h => ?_) (fun cdv A outer s H vs Q E hr h => ?_)
  · obtain ⟨l, rfl, _⟩ := h
    rfl
  · obtain ⟨l, rfl, hl, q⟩ := h
    refine ⟨_, (pss_cons (ps_if (PW.pt (pw_or (pt_not (pt_chain op_le op_le pe_int (pe_callB Kn.cr_lenStr (by rfl) T.b_len PySem.boot_len (pa_cons (pv 0) pa_nil)) (C8.pe_gc (by rfl) T.c_IDENTIFIER_LENGTH))) (pw_or1 (pt_cmpR op_notInS (pe_ix ix_str (pv 0) pe_int (fun _ _ => rfl)) (C8.pe_gc (by rfl) T.c_LETTERS) rfl)))) (pss_one (ps_ret pe_bl)) pss_nil)
      (pss_one (ps_ret (pe_callB (cr_all rfl) (by rfl) T.b_all (by decide +kernel) (pa_cons (pe_lc (own := [("sign", 1)]) rfl sc_is_identifier.nd (pi_str (pv 0)) (blkOk_by (own := [("sign", 1)]) (N := N_is_identifier) (sc := defScope s_is_identifier) (by decide +kernel)) (fun _ _ _ _ _ => pg_name (i := 1) sc_is_identifier.nd rfl (Or.inl rfl)) (fun _ _ _ _ _ => pts_nil) (fun _ _ _ _ _ => (pe_cmpR op_inS (pv 1) (C8.pe_gc (by rfl) T.c_IDENTIFIER_SIGNS) rfl))) pa_nil))))), ?_⟩
    refine q_when (b := !(decide (1 ≤ (l.length : Int)) && decide ((l.length : Int) ≤ 12)) || !decide (l.getD 0 0 ∈ LS)) (et_or (et_not (et_test (ev_chain ev_c (ev_cb (ea_cons (ev_var rfl) ea_nil) (rc_lenS (by omega))) rv_le ev_c rv_le))) fun h => ?_) (fun hb H1 e1 => ?_) fun hb H1 e1 => ?_
    · rw [Bool.not_eq_false', Bool.and_eq_true, decide_eq_true_eq] at h
      cases l with
      | nil => exact absurd h.1 (by decide)
      | cons c r => exact et_test (ev_op (ev_idxS (ev_var rfl) (ev_c (v := .int ((0 : Nat) : Int))) (by omega) (atI_nat rfl)) (ev_cS (l := LS) rfl) rv_ninS)
    · have h0 : idOk l = false := by
        unfold idOk
        rw [hb]
        rfl
      exact s_ret (v := .bl (idOk l)) (ev_is ev_c (by rw [h0])) fun H2 e2 => q H2 (e1.trans e2)
    · have h0 : idOk l = l.all fun c => decide (c ∈ IS) := by
        unfold idOk
        rw [hb]
        rfl
      exact s_ret (v := .bl (idOk l)) (ev_is (ev_all (p := fun c : Nat => decide (c ∈ IS)) (xs := l) (el_lcS (ev_var rfl) (by omega) (fun _ => rfl) fun c hc H2 e2 => ev_op (ev_var rfl) (ev_cS (l := IS) rfl) rv_inS)) (by rw [h0])) fun H2 e2 => q H2 (e1.trans e2)
/-! ### words of a line -/
def sp__is_number (_ : PySem.W.Frag) : Sp := sp1 (fun l : List Nat => [.str (S l)]) (fun l _ => l.length ≤ 30000) (fun l => .bl (isNum l))
theorem ok__is_number {f : Addr} {C_Store C_Record : Addr} {fd : FuncData} (F : Fun K "_is_number" "_is_number" s__is_number f fd) (T : Tx mg) (G : Gx K mg) (TC_Store : Tc_Store K C_Store) (TC_Record : Tc_Record K C_Record)  : FnOk P w K mg base CX0 1 f fd ["word"] (sp__is_number K) := by
  refine F.ok sc__is_number (fun vs H Q E h => ?_) (fun cdv A outer s H vs Q E hr h => ?_)
  · obtain ⟨l, rfl, _⟩ := h
    rfl
  · obtain ⟨l, rfl, hl, q⟩ := h
    refine ⟨_, (pss_one (ps_ret (pe_and (pe_cmpR op_le (pe_callB Kn.cr_lenStr (by rfl) T.b_len PySem.boot_len (pa_cons (pv 0) pa_nil)) (C8.pe_gc (by rfl) T.c_MOST_DIGITS) (nomark _)) (pe_and (pe_m0 PySem.F.slot_str_isascii PySem.F.type_str_isascii Kn.mt_asc (pv 0)) (pe_and (pe_m0 PySem.F.slot_str_isdigit PySem.F.type_str_isdigit Kn.mt_dig (pv 0)) (pe_one (pe_not (pe_m1 PySem.F.slot_str_startswith PySem.F.type_str_startswith Kn.mt_startswith (pv 0) pe_str)))))))), ?_⟩
    exact s_ret (v := .bl (isNum l)) (ev_andV (ev_op (ev_cb (ea_cons (ev_var rfl) ea_nil) (rc_lenS (by omega))) ev_c rv_le) fun _ => ev_andV (ev_asc (ev_var rfl)) fun _ => ev_andV (ev_dig (ev_var rfl)) fun _ => ev_notV (ev_starts (c := 48) (ev_var rfl) (ev_cS rfl))) q
def sp__is_number_or_nothing (_ : PySem.W.Frag) : Sp := sp1 (fun l : List Nat => [.str (S l)]) (fun l _ => l.length ≤ 30000) (fun l => .bl (numOrNot l))
theorem ok__is_number_or_nothing {f : Addr} {C_Store C_Record : Addr} {fd : FuncData} (F : Fun K "_is_number_or_nothing" "_is_number_or_nothing" s__is_number_or_nothing f fd) (T : Tx mg) (G : Gx K mg) (TC_Store : Tc_Store K C_Store) (TC_Record : Tc_Record K C_Record) (C__is_number : Kn.Cl P w K mg base 1 "_is_number" (sp__is_number K)) : FnOk P w K mg base CX0 2 f fd ["word"] (sp__is_number_or_nothing K) := by
  refine F.ok sc__is_number_or_nothing (fun vs H Q E h => ?_) (fun cdv A outer s H vs Q E hr h => ?_)
  · obtain ⟨l, rfl, _⟩ := h
    rfl
  · obtain ⟨l, rfl, hl, q⟩ := h
    refine ⟨_, (pss_one (ps_ret (pe_or (pe_cmpR op_eq (pv 0) (C8.pe_gc (by rfl) T.c_NOTHING) (nomark _)) (pe_one (Kn.pe_cl C__is_number hr (by decide) (by rfl) (pa_cons (pv 0) pa_nil)))))), ?_⟩
    exact s_ret (v := .bl (numOrNot l)) (ev_orV (ev_op (ev_var rfl) (ev_cS (l := [45]) rfl) rv_eqS) fun _ => ev_c1 (a := l) (ea_cons (ev_var rfl) ea_nil) fun _ _ => hl) q
def sp__is_folder (_ : PySem.W.Frag) : Sp := sp1 (fun l : List Nat => [.str (S l)]) (fun l _ => l.length ≤ 30000) (fun l => .bl (folderOk l))
theorem ok__is_folder {f : Addr} {C_Store C_Record : Addr} {fd : FuncData} (F : Fun K "_is_folder" "_is_folder" s__is_folder f fd) (T : Tx mg) (G : Gx K mg) (TC_Store : Tc_Store K C_Store) (TC_Record : Tc_Record K C_Record) (C_is_path : Kn.Cl P w K mg base 2 "is_path" (sp_is_path K)) : FnOk P w K mg base CX0 3 f fd ["word"] (sp__is_folder K) := by
  refine F.ok sc__is_folder (fun vs H Q E h => ?_) (fun cdv A outer s H vs Q E hr h => ?_)
  · obtain ⟨l, rfl, _⟩ := h
    rfl
  · obtain ⟨l, rfl, hl, q⟩ := h
    refine ⟨_, (pss_one (ps_ret (pe_or (pe_cmpR op_eq (pv 0) pe_str (nomark _)) (pe_one (Kn.pe_cl C_is_path hr (by decide) (by rfl) (pa_cons (pv 0) pa_nil)))))), ?_⟩
    exact s_ret (v := .bl (folderOk l)) (ev_orV (ev_op (ev_var rfl) (ev_cS (l := []) rfl) rv_eqS) fun _ => ev_c1 (a := l) (ea_cons (ev_var rfl) ea_nil) fun _ _ => hl) q
theorem cut_ne (c : Nat) : ∀ (l acc : List Nat), TL.spl [c] 0 acc l ≠ []
  | [], acc => by rw [TL.spl_nil]; simp
  | d :: r, acc => by
    by_cases h : TL.pre [c] (d :: r) = true
    · rw [TL.spl_hit h]
      simp
    · rw [TL.spl_miss (by simpa using h)]
      exact cut_ne c r _
theorem cut1_pos (c : Nat) (l : List Nat) : 0 < (cut1 c l).length := List.length_pos_iff.mpr (cut_ne c l [])
theorem at_getD {it : List (List Nat)} {i : Nat} {j : Int} (hj : j = (i : Int)) (h : i < it.length) : atI (it.map fun p => V.str (S p)) j = some (.str (S (it.getD i []))) := by
  refine atI_nat' hj ?_
  rw [List.getElem?_map, List.getElem?_eq_getElem h, List.getD_eq_getElem?_getD, List.getElem?_eq_getElem h]
  rfl
theorem at_last {α : Type} {xs : List α} {v : α} (h : xs[xs.length - 1]? = some v) : atI xs (-1) = some v := by
  have hl := (List.getElem?_eq_some_iff.mp h).1
  have e : ixN xs.length (-1) = some (xs.length - 1) := by
    unfold ixN
    rw [if_neg (by decide), if_pos (by omega)]
    congr 1
    omega
  unfold atI
  rw [e]
  exact h
theorem last_getD {it : List (List Nat)} (h : 0 < it.length) : atI (it.map fun p => V.str (S p)) (-1) = some (.str (S (it.getD (it.length - 1) []))) := by
  refine at_last ?_
  rw [List.length_map, List.getElem?_map, List.getElem?_eq_getElem (by omega), List.getD_eq_getElem?_getD, List.getElem?_eq_getElem (by omega)]
  rfl
theorem in_two (a b c : List Nat) : inV (.str (S a)) [.str (S b), .str (S c)] = (decide (a = b) || decide (a = c)) := by
  have h : ∀ x y : List Nat, eqV (.str (S x)) (.str (S y)) = decide (x = y) := fun x y => by
    show (S x == S y) = _
    rw [Bool.eq_iff_iff, beq_iff_eq, decide_eq_true_eq]
    exact ⟨fun h => S_inj h, fun h => by rw [h]⟩
  show (eqV (.str (S b)) (.str (S a)) || (eqV (.str (S c)) (.str (S a)) || false)) = _
  rw [h, h, Bool.or_false]
  congr 1 <;> (rw [decide_eq_decide]; exact ⟨Eq.symm, Eq.symm⟩)
def sp__is_need (_ : PySem.W.Frag) : Sp := sp1 (fun l : List Nat => [.str (S l)]) (fun l _ => l.length ≤ 20000) (fun l => .bl (needOk l))
theorem ok__is_need {f : Addr} {C_Store C_Record : Addr} {fd : FuncData} (F : Fun K "_is_need" "_is_need" s__is_need f fd) (T : Tx mg) (G : Gx K mg) (TC_Store : Tc_Store K C_Store) (TC_Record : Tc_Record K C_Record) (C__is_folder : Kn.Cl P w K mg base 3 "_is_folder" (sp__is_folder K)) (C_is_name_pattern : Kn.Cl P w K mg base 4 "is_name_pattern" (sp_is_name_pattern K)) (C__is_number : Kn.Cl P w K mg base 1 "_is_number" (sp__is_number K)) (C_is_identifier : Kn.Cl P w K mg base 1 "is_identifier" (sp_is_identifier K)) (C__is_number_or_nothing : Kn.Cl P w K mg base 2 "_is_number_or_nothing" (sp__is_number_or_nothing K)) (C_is_path : Kn.Cl P w K mg base 2 "is_path" (sp_is_path K)) : FnOk P w K mg base CX0 5 f fd ["word"] (sp__is_need K) := by
  refine F.ok sc__is_need (fun vs H Q E h => ?_) (fun cdv A outer s H vs Q E hr h => ?_)
  · obtain ⟨l, rfl, _⟩ := h
    rfl
  · obtain ⟨l, rfl, hl, q⟩ := h
    refine ⟨_, (pss_cons (ps_set (i := 1) sc__is_need.nd rfl (Or.inl rfl) (pe_m1 PySem.F.slot_str_split PySem.F.type_str_split Kn.mt_split (pv 0) pe_str))
      (pss_cons (ps_set (i := 2) sc__is_need.nd rfl (Or.inl rfl) (pe_ix ix_list (pv 1) pe_int (fun _ _ => rfl)))
      (pss_cons (ps_set (i := 3) sc__is_need.nd rfl (Or.inl rfl) (pe_ix ix_list (pv 1) (pe_un un_neg pe_int) (fun _ _ => rfl)))
      (pss_cons (ps_if (pt_cmpR op_eq (pv 2) pe_str (nomark _)) (pss_one (ps_ret (pe_and (pe_cmpR op_eq (pe_callB Kn.cr_lenSeq (by rfl) T.b_len PySem.boot_len (pa_cons (pv 1) pa_nil)) pe_int (nomark _)) (pe_and (Kn.pe_cl C__is_folder hr (by decide) (by rfl) (pa_cons (pe_ix ix_list (pv 1) pe_int (fun _ _ => rfl)) pa_nil)) (pe_and (Kn.pe_cl C_is_name_pattern hr (by decide) (by rfl) (pa_cons (pe_ix ix_list (pv 1) pe_int (fun _ _ => rfl)) pa_nil)) (pe_one (Kn.pe_cl C__is_number hr (by decide) (by rfl) (pa_cons (pv 3) pa_nil)))))))) pss_nil)
      (pss_cons (ps_if (pt_cmpR op_ne (pe_callB Kn.cr_lenSeq (by rfl) T.b_len PySem.boot_len (pa_cons (pv 1) pa_nil)) pe_int (nomark _)) (pss_one (ps_ret pe_bl)) pss_nil)
      (pss_cons (ps_if (pt_cmpR op_eq (pv 2) pe_str (nomark _)) (pss_one (ps_ret (pe_and (Kn.pe_cl C_is_identifier hr (by decide) (by rfl) (pa_cons (pe_ix ix_list (pv 1) pe_int (fun _ _ => rfl)) pa_nil)) (pe_one (Kn.pe_cl C__is_number_or_nothing hr (by decide) (by rfl) (pa_cons (pv 3) pa_nil)))))) pss_nil)
      (pss_cons (ps_if (pt_cmpR op_eq (pv 2) pe_str (nomark _)) (pss_one (ps_ret (pe_and (Kn.pe_cl C_is_path hr (by decide) (by rfl) (pa_cons (pe_ix ix_list (pv 1) pe_int (fun _ _ => rfl)) pa_nil)) (pe_one (pe_cmpR op_in_seq (pv 3) (pe_tup (pa_cons (C8.pe_gc (by rfl) T.c_YES) (pa_cons (C8.pe_gc (by rfl) T.c_NO) pa_nil))) rfl))))) pss_nil)
      (pss_one (ps_ret (pe_and (pe_cmpR op_in_seq (pv 2) (pe_tup (pa_cons pe_str (pa_cons pe_str pa_nil))) rfl) (pe_and (Kn.pe_cl C_is_path hr (by decide) (by rfl) (pa_cons (pe_ix ix_list (pv 1) pe_int (fun _ _ => rfl)) pa_nil)) (pe_one (Kn.pe_cl C__is_number_or_nothing hr (by decide) (by rfl) (pa_cons (pv 3) pa_nil)))))))))))))), ?_⟩
    refine q_asgL (el_split (c := 58) (ev_var rfl) (ev_cS rfl) (by decide) (by omega)) fun p H1 np e1 hp => ?_
    have hpos := cut1_pos 58 l
    have hpart : ∀ i, ((cut1 58 l).getD i []).length ≤ 30000 := fun i => by
      rw [List.getD_eq_getElem?_getD]
      cases h : (cut1 58 l)[i]? with
      | none => exact Nat.zero_le _
      | some x =>
        have := cut1_part (List.mem_of_getElem? h)
        show x.length ≤ 30000
        omega
    show _
    have hq : Rt H1 (.bl (needK ((cut1 58 l).getD 0 []) ((cut1 58 l).getD 1 []) ((cut1 58 l).getD 2 []) ((cut1 58 l).getD ((cut1 58 l).length - 1) []) (cut1 58 l).length)) Q := fun H2 e2 => q H2 (e1.trans e2)
    generalize cut1 58 l = it at hp hpos hpart hq
    have h0 := hpart 0
    have h1 := hpart 1
    have h2 := hpart 2
    have hL := hpart (it.length - 1)
    refine q_asg (ev_op (ev_var rfl) ev_c (rv_ixL (sq_of hp) (at_getD (i := 0) rfl hpos))) fun H2 e2 => ?_
    refine q_asg (ev_op (ev_var rfl) (ev_un ev_c ru_neg) (rv_ixL (sq_of (e2 _ _ hp)) (last_getD hpos))) fun H3 e3 => ?_
    have e13 := e2.trans e3
    have ix : ∀ {H' : Hp} {i : Nat} {σ : L2.St}, Ex H3 H' → i < it.length → σ[1]? = some (some (.ref p)) → Ev (tOp (rIxL K) (tVar 1) (tC (.int (i : Int)))) σ H' (.str (S (it.getD i []))) := fun e hi hσ => ev_op (ev_var hσ) ev_c (rv_ixL (sq_of (e _ _ (e13 _ _ hp))) (at_getD rfl hi))
    generalize it.getD (it.length - 1) [] = seen at hq hL
    generalize it.getD 0 [] = kind at hq h0
    have hlen : ∀ {H' : Hp} {σ : L2.St}, Ex H3 H' → σ[1]? = some (some (.ref p)) → Ev (tCB (rLenS K) (tCons (tVar 1) tNil)) σ H' (.int (it.length : Int)) := fun e hσ => ev_is (ev_len (ev_var hσ) (sq_of (e _ _ (e13 _ _ hp)))) (by rw [List.length_map])
    refine q_when (b := decide (kind = lstL)) (et_test (ev_op (ev_var rfl) (ev_cS (l := lstL) rfl) rv_eqS)) (fun hb H4 e4 => ?_) fun hb H4 e4 => ?_
    · have hk := of_decide_eq_true hb
      refine s_ret (v := .bl (decide (it.length = 4) && (folderOk (it.getD 1 []) && (npOk (it.getD 2 []) && isNum seen)))) (ev_andV (ev_is (ev_op (hlen e4 rfl) ev_c rv_eqI) (by congr 1; rw [decide_eq_decide]; omega)) fun h4 => ?_) fun H5 e5 => ?_
      · have h4' := of_decide_eq_true h4
        exact ev_andV (ev_c1 (a := it.getD 1 []) (ea_cons (ix (i := 1) e4 (by omega) rfl) ea_nil) fun _ _ => h1) fun _ => ev_andV (ev_c1 (a := it.getD 2 []) (ea_cons (ix (i := 2) e4 (by omega) rfl) ea_nil) fun _ _ => h2) fun _ => ev_c1 (a := seen) (ea_cons (ev_var rfl) ea_nil) fun _ _ => hL
      · have z := hq H5 ((e13.trans e4).trans e5)
        unfold needK at z
        rw [if_pos hk] at z
        exact z
    · have hk := of_decide_eq_false hb
      unfold needK at hq
      rw [if_neg hk] at hq
      refine q_when (b := !decide (it.length = 3)) (et_is (et_test (ev_op (hlen e4 rfl) ev_c rv_neI)) (by congr 1; rw [decide_eq_decide]; omega)) (fun hb H5 e5 => ?_) fun hb H5 e5 => ?_
      · have h3 : it.length ≠ 3 := by simpa using hb
        rw [if_pos h3] at hq
        exact s_ret ev_c fun H6 e6 => hq H6 (((e13.trans e4).trans e5).trans e6)
      · have h3 : it.length = 3 := by simpa using hb
        rw [if_neg (by omega)] at hq
        have e35 := e4.trans e5
        have e15 := e13.trans e35
        refine q_when (b := decide (kind = setL)) (et_test (ev_op (ev_var rfl) (ev_cS (l := setL) rfl) rv_eqS)) (fun hb H6 e6 => ?_) fun hb H6 e6 => ?_
        · rw [if_pos (of_decide_eq_true hb)] at hq
          exact s_ret (ev_andV (ev_c1 (a := it.getD 1 []) (ea_cons (ix (i := 1) (e35.trans e6) (by omega) rfl) ea_nil) fun _ _ => (by omega)) fun _ => ev_c1 (a := seen) (ea_cons (ev_var rfl) ea_nil) fun _ _ => hL) fun H7 e7 => hq H7 ((e15.trans e6).trans e7)
        · rw [if_neg (of_decide_eq_false hb)] at hq
          refine q_when (b := decide (kind = hasL)) (et_test (ev_op (ev_var rfl) (ev_cS (l := hasL) rfl) rv_eqS)) (fun hb H7 e7 => ?_) fun hb H7 e7 => ?_
          · rw [if_pos (of_decide_eq_true hb)] at hq
            refine s_ret (ev_andV (ev_c1 (a := it.getD 1 []) (ea_cons (ix (i := 1) ((e35.trans e6).trans e7) (by omega) rfl) ea_nil) fun _ _ => h1) fun _ => ev_is (ev_inU (ev_var rfl) (eu_tup (ea_cons (ev_cS (l := yesL) rfl) (ea_cons (ev_cS (l := nooL) rfl) ea_nil)) (by show 2 ≤ 100000; decide)) rfl rfl) ?_) fun H8 e8 => hq H8 (((e15.trans e6).trans e7).trans e8)
            congr 1
            exact in_two seen yesL nooL
          · rw [if_neg (of_decide_eq_false hb)] at hq
            refine s_ret (ev_andV (ev_is (ev_inU (ev_var rfl) (eu_tup (ea_cons (ev_cS (l := fileL) rfl) (ea_cons (ev_cS (l := lnkL) rfl) ea_nil)) (by show 2 ≤ 100000; decide)) rfl rfl) (by congr 1; exact in_two kind fileL lnkL)) fun _ => ev_andV (ev_c1 (a := it.getD 1 []) (ea_cons (ix (i := 1) ((e35.trans e6).trans e7) (by omega) rfl) ea_nil) fun _ _ => h1) fun _ => ev_c1 (a := seen) (ea_cons (ev_var rfl) ea_nil) fun _ _ => hL) fun H8 e8 => hq H8 (((e15.trans e6).trans e7).trans e8)
end

/-! ### lists of words -/
section
variable {P : Program} {w : World} {K : PySem.W.Frag} {mg : Str → Option Value} {base : Heap}
theorem strsV_len (ws : List (List Nat)) : (strsV ws).length = ws.length := List.length_map _
theorem ev_lenW {σ : L2.St} {H : Hp} {te : TE} {p : Addr} {ws : List (List Nat)} (h : Ev te σ H (.ref p)) (hp : SqL K H p (strsV ws)) : Ev (tCB (rLenS K) (tCons te tNil)) σ H (.int (ws.length : Int)) := ev_is (ev_len h hp) (by rw [strsV_len])
def Wds (K : PySem.W.Frag) (H : Hp) (p : Addr) (ws : List (List Nat)) : Prop := SqL K H p (strsV ws) ∧ ws.length ≤ 30000 ∧ ∀ x ∈ ws, x.length ≤ 20000
theorem Wds.mono {H H1 : Hp} {p : Addr} {ws : List (List Nat)} (h : Wds K H p ws) (e : Ex H H1) : Wds K H1 p ws := ⟨ex_l e h.1, h.2⟩
def sp__are_outputs (K : PySem.W.Frag) : Sp := sp2 (fun (p : Addr) (_ : List (List Nat)) => [.ref p]) (fun p ws H => Wds K H p ws ∧ (ws.length ≤ 3 → ws.Nodup)) (fun _ ws => .bl (outsOk ws))
theorem ok__are_outputs {f : Addr} {C_Store C_Record : Addr} {fd : FuncData} (F : Fun K "_are_outputs" "_are_outputs" s__are_outputs f fd) (T : Tx mg) (G : Gx K mg) (TC_Store : Tc_Store K C_Store) (TC_Record : Tc_Record K C_Record) (C_is_path : Kn.Cl P w K mg base 2 "is_path" (sp_is_path K)) : FnOk P w K mg base CX0 3 f fd ["words"] (sp__are_outputs K) := by
  refine F.ok sc__are_outputs (fun vs H Q E h => ?_) (fun cdv A outer s H vs Q E hr h => ?_)
  · obtain ⟨p, ws, rfl, _⟩ := h
    rfl
  · obtain ⟨p, ws, rfl, ⟨⟨hp, hl, hx⟩, nd⟩, q⟩ := h
    refine ⟨_, (pss_one (ps_ret (pe_and (pe_cmpR op_le (pe_callB Kn.cr_lenSeq (by rfl) T.b_len PySem.boot_len (pa_cons (pv 0) pa_nil)) (C8.pe_gc (by rfl) T.c_MOST_OUTPUTS) (nomark _)) (pe_and (pe_cmpR op_eq (Kn.pe_lenSetN rfl (by rfl) T.b_len (by rfl) T.b_set (pv 0)) (pe_callB Kn.cr_lenSeq (by rfl) T.b_len PySem.boot_len (pa_cons (pv 0) pa_nil)) (nomark _)) (pe_one (pe_callB (cr_all rfl) (by rfl) T.b_all (by decide +kernel) (pa_cons (pe_lc (own := [("word", 1)]) rfl sc__are_outputs.nd (pi_list (pv 0)) (blkOk_by (own := [("word", 1)]) (N := N__are_outputs) (sc := defScope s__are_outputs) (by decide +kernel)) (fun _ _ _ _ _ => pg_name (i := 1) sc__are_outputs.nd rfl (Or.inl rfl)) (fun _ _ _ _ _ => pts_nil) (fun _ _ _ _ _ => (Kn.pe_cl C_is_path hr (by decide) (by rfl) (pa_cons (pv 1) pa_nil)))) pa_nil))))))), ?_⟩
    have hlen : ∀ {σ : L2.St}, σ[0]? = some (some (.ref p)) → Ev (tCB (rLenS K) (tCons (tVar 0) tNil)) σ H (.int (ws.length : Int)) := fun hσ => ev_lenW (ev_var hσ) hp
    refine s_ret (ev_is (ev_andV (ev_op (hlen rfl) ev_c rv_le) fun h3 => ev_andV (ev_op (ev_lenSetV (ls := ws) (ev_var rfl) hp (nd (by have := of_decide_eq_true h3; omega)) (by have := of_decide_eq_true h3; omega)) (hlen rfl) rv_eqI) fun _ => ev_all (p := pathOk) (xs := ws) (el_lcM (g := fun l => V.str (S l)) (ev_var rfl) hp (by omega) (fun _ => rfl) fun n hn H2 e2 => ev_c1 (a := n) (ea_cons (ev_var rfl) ea_nil) fun _ _ => by have := hx n hn; omega)) ?_) q
    unfold outsOk
    rw [decide_eq_true (rfl : (ws.length : Int) = (ws.length : Int)), Bool.true_and]
    congr 2
    rw [decide_eq_decide]
    omega
theorem ev_rpartV {σ : L2.St} {H : Hp} {ta tb : TE} {l : List Nat} (ha : Ev ta σ H (.str (S l))) (hb : Ev tb σ H (.str (S [58]))) (hl : l.length ≤ 100000) : Ev (tOp (rIxT K) (tM1 rRpart ta tb) (tC (.int 0))) σ H (.str (S (questL l))) := by
  rw [← questS]
  exact ev_rpart0 ha hb (List.cons_ne_nil _ _) hl
def sp__are_needs (K : PySem.W.Frag) : Sp := sp2 (fun (p : Addr) (_ : List (List Nat)) => [.ref p]) (fun p ws H => Wds K H p ws ∧ (ws.length ≤ 60 → (ws.map questL).Nodup)) (fun _ ws => .bl (needsOk ws))
theorem ok__are_needs {f : Addr} {C_Store C_Record : Addr} {fd : FuncData} (F : Fun K "_are_needs" "_are_needs" s__are_needs f fd) (T : Tx mg) (G : Gx K mg) (TC_Store : Tc_Store K C_Store) (TC_Record : Tc_Record K C_Record) (C__is_need : Kn.Cl P w K mg base 5 "_is_need" (sp__is_need K)) : FnOk P w K mg base CX0 6 f fd ["words"] (sp__are_needs K) := by
  refine F.ok sc__are_needs (fun vs H Q E h => ?_) (fun cdv A outer s H vs Q E hr h => ?_)
  · obtain ⟨p, ws, rfl, _⟩ := h
    rfl
  · obtain ⟨p, ws, rfl, ⟨⟨hp, hl, hx⟩, nd⟩, q⟩ := h
    refine ⟨_, (pss_cons (ps_setLc (i := 1) (own := [("word", 2)]) rfl sc__are_needs.nd rfl rfl (sw_true rfl rfl rfl (by decide +kernel)) (pi_list (pv 0)) (blkOk_by (own := [("word", 2)]) (N := N__are_needs) (sc := defScope s__are_needs) (by decide +kernel)) (fun _ _ _ _ _ => pg_name (i := 2) sc__are_needs.nd rfl (Or.inl rfl)) (fun _ _ _ _ _ => pts_nil) (fun _ _ _ _ _ => (pe_ix (Kn.ix_tupK (K := K) rfl) (pe_m1 PySem.F.slot_str_rpartition PySem.F.type_str_rpartition Kn.mt_rpartition (pv 2) pe_str) pe_int (fun _ _ => rfl))))
      (pss_one (ps_ret (pe_and (pe_cmpR op_le (pe_callB Kn.cr_lenSeq (by rfl) T.b_len PySem.boot_len (pa_cons (pv 0) pa_nil)) (C8.pe_gc (by rfl) T.c_MOST_NEEDS) (nomark _)) (pe_and (pe_cmpR op_eq (Kn.pe_lenSetN rfl (by rfl) T.b_len (by rfl) T.b_set (pv 1)) (pe_callB Kn.cr_lenSeq (by rfl) T.b_len PySem.boot_len (pa_cons (pv 1) pa_nil)) (nomark _)) (pe_one (pe_callB (cr_all rfl) (by rfl) T.b_all (by decide +kernel) (pa_cons (pe_lc (own := [("word", 2)]) rfl sc__are_needs.nd (pi_list (pv 0)) (blkOk_by (own := [("word", 2)]) (N := N__are_needs) (sc := defScope s__are_needs) (by decide +kernel)) (fun _ _ _ _ _ => pg_name (i := 2) sc__are_needs.nd rfl (Or.inl rfl)) (fun _ _ _ _ _ => pts_nil) (fun _ _ _ _ _ => (Kn.pe_cl C__is_need hr (by decide) (by rfl) (pa_cons (pv 2) pa_nil)))) pa_nil)))))))), ?_⟩
    refine q_asgL (xs := strsV (ws.map questL)) ?_ fun b H1 nb e1 hb => ?_
    · rw [show strsV (ws.map questL) = ws.map fun l => V.str (S (questL l)) from List.map_map ..]
      exact el_lcM (g := fun l => V.str (S l)) (ev_var rfl) hp (by omega) (fun _ => rfl) fun n hn H2 e2 => ev_rpartV (ev_var rfl) (ev_cS rfl) (by have := hx n hn; omega)
    · have hp1 := ex_l e1 hp
      have hlen : ∀ {σ : L2.St}, σ[0]? = some (some (.ref p)) → Ev (tCB (rLenS K) (tCons (tVar 0) tNil)) σ H1 (.int (ws.length : Int)) := fun hσ => ev_lenW (ev_var hσ) hp1
      refine s_ret (ev_is (ev_andV (ev_op (hlen rfl) ev_c rv_le) fun h3 => ev_andV (ev_op (ev_lenSetV (ls := ws.map questL) (ev_var rfl) (sq_of hb) (nd (by have := of_decide_eq_true h3; omega)) (by rw [List.length_map]; have := of_decide_eq_true h3; omega)) (ev_lenW (ev_var rfl) (sq_of hb)) rv_eqI) fun _ => ev_all (p := needOk) (xs := ws) (el_lcM (g := fun l => V.str (S l)) (ev_var rfl) hp1 (by omega) (fun _ => rfl) fun n hn H2 e2 => ev_c1 (a := n) (ea_cons (ev_var rfl) ea_nil) fun _ _ => by have := hx n hn; omega)) ?_) fun H2 e2 => q H2 (e1.trans e2)
      unfold needsOk
      rw [decide_eq_true (rfl : ((ws.map questL).length : Int) = ((ws.map questL).length : Int)), Bool.true_and]
      congr 2
      rw [decide_eq_decide]
      omega
/-! ### what was seen -/
def sp__format_seen (_ : PySem.W.Frag) : Sp := sp1 (fun s : Sn => [snD s]) (fun s _ => GSn s) (fun s => .str (S (fmtSn s)))
theorem ok__format_seen {f : Addr} {C_Store C_Record : Addr} {fd : FuncData} (F : Fun K "_format_seen" "_format_seen" s__format_seen f fd) (T : Tx mg) (G : Gx K mg) (TC_Store : Tc_Store K C_Store) (TC_Record : Tc_Record K C_Record)  : FnOk P w K mg base CX0 1 f fd ["seen"] (sp__format_seen K) := by
  refine F.ok sc__format_seen (fun vs H Q E h => ?_) (fun cdv A outer s H vs Q E hr h => ?_)
  · obtain ⟨n, rfl, _⟩ := h
    rfl
  · obtain ⟨n, rfl, g, q⟩ := h
    refine ⟨_, (pss_cons (ps_if (pt_cmpR op_isN1 (pv 0) pe_non (nomark _)) (pss_one (ps_ret (C8.pe_gc (by rfl) T.c_NOTHING))) pss_nil)
      (pss_cons (ps_if (pt_cmpR Kn.op_isB (pv 0) pe_bl (nomark _)) (pss_one (ps_ret (C8.pe_gc (by rfl) T.c_YES))) pss_nil)
      (pss_one (ps_ret (pe_ifExp (pt_cmpR Kn.op_isB (pv 0) pe_bl (nomark _)) (C8.pe_gc (by rfl) T.c_NO) (pe_joined1 (pe_fmt (pv 0)))))))), ?_⟩
    have hsn : snV (snD n) = true := by cases n <;> rfl
    refine q_when (b := decide (snD n = .non)) (et_isN (ev_var rfl)) (fun hb H1 e1 => ?_) fun hb H1 e1 => ?_
    · have e : n = .no := by
        cases n with
        | no => rfl
        | b x => exact absurd (of_decide_eq_true hb) (by intro z; cases z)
        | k x => exact absurd (of_decide_eq_true hb) (by intro z; cases z)
      subst e
      exact s_ret (ev_cS (l := [45]) rfl) fun H2 e2 => q H2 (e1.trans e2)
    · refine q_when (b := decide (snD n = .bl true)) (et_test (ev_op (ev_var rfl) ev_c (rv_isB hsn))) (fun hb H2 e2 => ?_) fun hb2 H2 e2 => ?_
      · have e : n = .b true := by
          cases n with
          | no => exact absurd (of_decide_eq_true hb) (by intro z; cases z)
          | b x => have := of_decide_eq_true hb; cases this; rfl
          | k x => exact absurd (of_decide_eq_true hb) (by intro z; cases z)
        subst e
        exact s_ret (ev_cS (l := yesL) rfl) fun H3 e3 => q H3 ((e1.trans e2).trans e3)
      · refine s_ret (ev_if (b := decide (snD n = .bl false)) (et_test (ev_op (ev_var rfl) ev_c (rv_isB hsn))) (fun hb => ?_) fun hb3 => ?_) fun H3 e3 => q H3 ((e1.trans e2).trans e3)
        · have e : n = .b false := by
            cases n with
            | no => exact absurd (of_decide_eq_true hb) (by intro z; cases z)
            | b x => have := of_decide_eq_true hb; cases this; rfl
            | k x => exact absurd (of_decide_eq_true hb) (by intro z; cases z)
          subst e
          exact ev_cS (l := nooL) rfl
        · cases n with
          | no => exact absurd rfl (of_decide_eq_false hb)
          | b x =>
            cases x with
            | true => exact absurd rfl (of_decide_eq_false hb2)
            | false => exact absurd rfl (of_decide_eq_false hb3)
          | k x => exact ev_fmtN (ev_var rfl) (GK.log g)
def sp__parse_seen (_ : PySem.W.Frag) : Sp := sp1 (fun s : Sn => [.str (S (fmtSn s))]) (fun s _ => GSn s) (fun s => snD s)
theorem ok__parse_seen {f : Addr} {C_Store C_Record : Addr} {fd : FuncData} (F : Fun K "_parse_seen" "_parse_seen" s__parse_seen f fd) (T : Tx mg) (G : Gx K mg) (TC_Store : Tc_Store K C_Store) (TC_Record : Tc_Record K C_Record)  : FnOk P w K mg base CX0 1 f fd ["word"] (sp__parse_seen K) := by
  refine F.ok sc__parse_seen (fun vs H Q E h => ?_) (fun cdv A outer s H vs Q E hr h => ?_)
  · obtain ⟨n, rfl, _⟩ := h
    rfl
  · obtain ⟨n, rfl, g, q⟩ := h
    refine ⟨_, (pss_cons (ps_if (pt_cmpR op_eq (pv 0) (C8.pe_gc (by rfl) T.c_NOTHING) (nomark _)) (pss_one (ps_ret pe_non)) pss_nil)
      (pss_cons (ps_if (pt_cmpR op_eq (pv 0) (C8.pe_gc (by rfl) T.c_YES) (nomark _)) (pss_one (ps_ret pe_bl)) pss_nil)
      (pss_one (ps_ret (pe_ifExp (pt_cmpR op_eq (pv 0) (C8.pe_gc (by rfl) T.c_NO) (nomark _)) pe_bl (pe_callTy Kn.cr_intS (by rfl) T.b_int (by decide +kernel) (pa_cons (pv 0) pa_nil))))))), ?_⟩
    refine q_when (b := decide (fmtSn n = [45])) (et_test (ev_op (ev_var rfl) (ev_cS (l := [45]) rfl) rv_eqS)) (fun hb H1 e1 => ?_) fun hb1 H1 e1 => ?_
    · have e : n = .no := by
        cases n with
        | no => rfl
        | b x => exact absurd (of_decide_eq_true hb) (by cases x <;> decide)
        | k x => exact absurd (of_decide_eq_true hb) (num_not ⟨45, by decide, by decide⟩)
      subst e
      exact s_ret ev_c fun H2 e2 => q H2 (e1.trans e2)
    · refine q_when (b := decide (fmtSn n = yesL)) (et_test (ev_op (ev_var rfl) (ev_cS (l := yesL) rfl) rv_eqS)) (fun hb H2 e2 => ?_) fun hb2 H2 e2 => ?_
      · have e : n = .b true := by
          cases n with
          | no => exact absurd (of_decide_eq_true hb) (by decide)
          | b x => cases x with
            | true => rfl
            | false => exact absurd (of_decide_eq_true hb) (by decide)
          | k x => exact absurd (of_decide_eq_true hb) (num_not ⟨121, by decide, by decide⟩)
        subst e
        exact s_ret ev_c fun H3 e3 => q H3 ((e1.trans e2).trans e3)
      · refine s_ret (ev_if (b := decide (fmtSn n = nooL)) (et_test (ev_op (ev_var rfl) (ev_cS (l := nooL) rfl) rv_eqS)) (fun hb => ?_) fun hb3 => ?_) fun H3 e3 => q H3 ((e1.trans e2).trans e3)
        · have e : n = .b false := by
            cases n with
            | no => exact absurd (of_decide_eq_true hb) (by decide)
            | b x => cases x with
              | false => rfl
              | true => exact absurd (of_decide_eq_true hb) (by decide)
            | k x => exact absurd (of_decide_eq_true hb) (num_not ⟨110, by decide, by decide⟩)
          subst e
          exact ev_c
        · cases n with
          | no => exact absurd rfl (of_decide_eq_false hb1)
          | b x => cases x with
            | true => exact absurd rfl (of_decide_eq_false hb2)
            | false => exact absurd rfl (of_decide_eq_false hb3)
          | k x =>
            have z := ev_intS (σ := [some (.str (S (TL.numL x)))]) (H := H2) (ta := tVar 0) (ev_var rfl) (intS (TL.numL_digits x) (TL.numL_ne x) (by have := GK.len g; omega)) (by have := GK.len g; omega)
            rw [TL.numL_val] at z
            exact z
/-! ### needs -/
/-- a new tuple is returned -/
def Ru (H : Hp) (xs : List V) (Q : VK) : Prop := ∀ p H1, H p = none → Ex H H1 → H1 p = some (.tup xs) → Q (.ref p) H1
theorem eu_call {σ : L2.St} {H : Hp} {sp : Sp} {tA : TA} {vs xs : List V} {E : XK} (h : EvA tA σ H vs) (hs : ∀ H1, Ex H H1 → ∀ Q : VK, Ru H1 xs Q → ∀ E, sp vs H1 Q E) : EvU (tCall sp [] E tA) σ H xs := fun H1 e Q q => h H1 e _ fun H2 e2 => by
  rw [List.append_nil]
  exact hs H2 (e.trans e2) _ (fun p H3 np e3 hp => q p H3 (fresh_back e2 np) (e2.trans e3) hp) _
theorem cut_init (xs : List V) (h : xs ≠ []) : cutV xs none (some (-1)) = xs.dropLast ∧ ¬ (HT.sIx xs.length 0 none = 0 ∧ HT.sIx xs.length xs.length (some (-1)) = xs.length) := by
  have h1 := List.length_pos_iff.mpr h
  have e : HT.sIx xs.length xs.length (some (-1)) = xs.length - 1 := by
    show (if (-1 : Int) < 0 then ((-1 : Int) + (xs.length : Int)).toNat else min (-1 : Int).toNat xs.length) = _
    rw [if_pos (by decide)]
    omega
  refine ⟨?_, ?_⟩
  · unfold cutV
    rw [e, HT.sIx_none, List.drop_zero, Nat.sub_zero, List.dropLast_eq_take]
  · rw [e]
    omega
def sp_question (_ : PySem.W.Frag) : Sp := fun vs H Q _ => ∃ (a : Addr) (xs : List V), vs = [.ref a] ∧ H a = some (.tup xs) ∧ xs ≠ [] ∧ Ru H xs.dropLast Q
theorem ok_question {f : Addr} {C_Store C_Record : Addr} {fd : FuncData} (F : Fun K "question" "question" s_question f fd) (T : Tx mg) (G : Gx K mg) (TC_Store : Tc_Store K C_Store) (TC_Record : Tc_Record K C_Record)  : FnOk P w K mg base CX0 1 f fd ["need"] (sp_question K) := by
  refine F.ok sc_question (fun vs H Q E h => ?_) (fun cdv A outer s H vs Q E hr h => ?_)
  · obtain ⟨a, xs, rfl, _⟩ := h
    rfl
  · obtain ⟨a, xs, rfl, ha, hne, q⟩ := h
    refine ⟨_, (pss_one (ps_ret (pe_slice sl_tup (pv 0) po_none (po_some (pe_un un_neg pe_int))))), ?_⟩
    obtain ⟨e1, e2⟩ := cut_init xs hne
    have z := eu_sl (K := K) (σ := [some (.ref a)]) (te := tVar 0) (ev_var rfl) eo_none (eo_some (ev_un ev_c ru_neg)) ha e2
    rw [e1] at z
    exact s_retU z q
theorem drop_snoc (ws : List (List Nat)) (v : V) : (strsV ws ++ [v]).dropLast = strsV ws := List.dropLast_concat
theorem strs_snoc (ws : List (List Nat)) (x : List Nat) : strsV ws ++ [V.str (S x)] = strsV (ws ++ [x]) := by
  unfold strsV
  rw [List.map_append]
  rfl
def Szd (d : Nd) : Prop := d.ws.length ≤ 100 ∧ ((d.ws ++ [fmtSn d.sn]).map (·.length)).sum ≤ 5000
def sp__format_need (_ : PySem.W.Frag) : Sp := sp2 (fun (a : Addr) (_ : Nd) => [.ref a]) (fun a d H => H a = some (.tup (ndD d)) ∧ GSn d.sn ∧ Szd d) (fun _ d => .str (S (fmtNd d)))
theorem ok__format_need {f : Addr} {C_Store C_Record : Addr} {fd : FuncData} (F : Fun K "_format_need" "_format_need" s__format_need f fd) (T : Tx mg) (G : Gx K mg) (TC_Store : Tc_Store K C_Store) (TC_Record : Tc_Record K C_Record) (C_question : Kn.Cl P w K mg base 1 "question" (sp_question K)) (C__format_seen : Kn.Cl P w K mg base 1 "_format_seen" (sp__format_seen K)) : FnOk P w K mg base CX0 2 f fd ["need"] (sp__format_need K) := by
  refine F.ok sc__format_need (fun vs H Q E h => ?_) (fun cdv A outer s H vs Q E hr h => ?_)
  · obtain ⟨a, d, rfl, _⟩ := h
    rfl
  · obtain ⟨a, d, rfl, ⟨ha, g, hz⟩, q⟩ := h
    refine ⟨_, (pss_one (ps_ret (Kn.pe_joinN (pe_join pe_str (pe_op op_cat (pe_callTy Kn.cr_listS (by rfl) T.b_list (by decide +kernel) (pa_cons (Kn.pe_cl C_question hr (by decide) (by rfl) (pa_cons (pv 0) pa_nil)) pa_nil)) (pe_lst (pa_cons (Kn.pe_cl C__format_seen hr (by decide) (by rfl) (pa_cons (pe_ix ix_tup (pv 0) (pe_un un_neg pe_int) (fun _ _ => rfl)) pa_nil)) pa_nil))))))), ?_⟩
    refine s_ret (ev_join (s := [58]) (ys := d.ws ++ [fmtSn d.sn]) (ev_cS (l := [58]) rfl) ?_ ?_) q
    · show EvL _ _ _ (strsV (d.ws ++ [fmtSn d.sn]))
      rw [← strs_snoc]
      refine el_cat (el_listU (eu_call (xs := strsV d.ws) (ea_cons (ev_var rfl) ea_nil) fun H1 e1 Q q E => ⟨a, ndD d, rfl, e1 _ _ ha, by unfold ndD; simp, by unfold ndD; rw [drop_snoc]; exact q⟩)) (el_lst (ea_cons (ev_c1 (a := d.sn) (ea_cons (ev_op (ev_var rfl) (ev_un ev_c ru_neg) (rv_ixT (st_of ha) (at_last ?_))) ea_nil) fun _ _ => g) ea_nil) (by show 1 ≤ 100000; decide)) ?_
      · unfold ndD
        rw [List.length_append]
        show (strsV d.ws ++ [snD d.sn])[(strsV d.ws).length + 1 - 1]? = _
        rw [Nat.add_sub_cancel, List.getElem?_append_right (Nat.le_refl _), Nat.sub_self]
        rfl
      · have := hz.1
        unfold strsV
        rw [List.length_map]
        show d.ws.length + 1 ≤ 100000
        omega
    · have h1 := hz.1
      have h2 := hz.2
      rw [List.length_append]
      show _ + (d.ws.length + 1) * 1 ≤ _
      omega
def sp__parse_need (_ : PySem.W.Frag) : Sp := fun vs H Q _ => ∃ d : Nd, vs = [.str (S (fmtNd d))] ∧ GNd d ∧ (fmtNd d).length ≤ 20000 ∧ Ru H (ndD d) Q
theorem ok__parse_need {f : Addr} {C_Store C_Record : Addr} {fd : FuncData} (F : Fun K "_parse_need" "_parse_need" s__parse_need f fd) (T : Tx mg) (G : Gx K mg) (TC_Store : Tc_Store K C_Store) (TC_Record : Tc_Record K C_Record) (C__parse_seen : Kn.Cl P w K mg base 1 "_parse_seen" (sp__parse_seen K)) : FnOk P w K mg base CX0 2 f fd ["word"] (sp__parse_need K) := by
  refine F.ok sc__parse_need (fun vs H Q E h => ?_) (fun cdv A outer s H vs Q E hr h => ?_)
  · obtain ⟨d, rfl, _⟩ := h
    rfl
  · obtain ⟨d, rfl, g, hl, q⟩ := h
    refine ⟨_, (pss_cons (ps_set (i := 1) sc__parse_need.nd rfl (Or.inl rfl) (pe_m1 PySem.F.slot_str_split PySem.F.type_str_split Kn.mt_split (pv 0) pe_str))
      (pss_one (ps_ret (pe_op op_catT (pe_callTy Kn.cr_tupS (by rfl) T.b_tuple (by decide +kernel) (pa_cons (pe_slice sl_list (pv 1) po_none (po_some (pe_un un_neg pe_int))) pa_nil)) (pe_tup (pa_cons (Kn.pe_cl C__parse_seen hr (by decide) (by rfl) (pa_cons (pe_ix ix_list (pv 1) (pe_un un_neg pe_int) (fun _ _ => rfl)) pa_nil)) pa_nil)))))), ?_⟩
    refine q_asgL (el_split (c := 58) (ev_var rfl) (ev_cS rfl) (by decide) (by omega)) fun p H1 np e1 hp => ?_
    rw [g.cut] at hp
    have hp' : H1 p = some (.lst (strsV d.ws ++ [V.str (S (fmtSn d.sn))])) := by rw [strs_snoc]; exact hp
    have hne : strsV d.ws ≠ [] := fun z => g.ws.1 (by have := congrArg List.length z; unfold strsV at this; simpa using this)
    have hlw : (strsV d.ws).length ≤ 20001 := by
      have := cut1_len 58 (fmtNd d)
      rw [g.cut, List.length_append] at this
      unfold strsV
      rw [List.length_map]
      omega
    obtain ⟨c1, _⟩ := cut_init (strsV d.ws ++ [V.str (S (fmtSn d.sn))]) (by simp)
    have hs : EvL (tSl (rSlL K) (tVar 1) tNoPart (tPart (tUn (rU fun i => .int (-i)) (tC (.int 1))))) [some (.str (S (fmtNd d))), some (.ref p)] H1 (strsV d.ws) := by
      have z := el_sl (K := K) (σ := [some (.str (S (fmtNd d))), some (.ref p)]) (te := tVar 1) (ev_var rfl) eo_none (eo_some (ev_un (ev_c (v := .int 1)) ru_neg)) (sq_of hp')
      rw [c1, drop_snoc] at z
      exact z
    refine s_retU (eu_cat (eu_tupL hs) (eu_tup (ea_cons (ev_c1 (a := d.sn) (ea_cons (ev_op (ev_var rfl) (ev_un ev_c ru_neg) (rv_ixL (sq_of hp') (at_last ?_))) ea_nil) fun _ _ => g.sn) ea_nil) (by show 1 ≤ 100000; decide)) (by show _ + 1 ≤ 100000; omega) hne (by simp)) fun r H2 nr e2 hr => q r H2 (fresh_back e1 nr) (e1.trans e2) hr
    rw [List.length_append]
    show (strsV d.ws ++ [V.str (S (fmtSn d.sn))])[(strsV d.ws).length + 1 - 1]? = _
    rw [Nat.add_sub_cancel, List.getElem?_append_right (Nat.le_refl _), Nat.sub_self]
    rfl
end

/-! ### more of lists and joins -/
theorem pair_get {α β : Type} {F : α → β → Prop} : ∀ {as : List α} {bs : List β}, Paired F as bs → ∀ {i : Nat} {a : α}, as[i]? = some a → ∃ b, bs[i]? = some b ∧ F a b
  | _, _, .cons h r, 0, a, e => by
    simp at e
    subst e
    exact ⟨_, rfl, h⟩
  | _, _, .cons h r, i + 1, a, e => by
    simp at e
    obtain ⟨b, hb, hf⟩ := pair_get r e
    exact ⟨b, by simpa using hb, hf⟩
theorem join_len (s : Nat) : ∀ (ps : List (List Nat)), ps ≠ [] → (TL.joinL [s] ps).length + 1 = (ps.map (·.length)).sum + ps.length
  | [], h => absurd rfl h
  | [p], _ => by
    show p.length + 1 = (p.length + 0) + 1
    omega
  | p :: q :: r, _ => by
    have ih := join_len s (q :: r) (by simp)
    show (p ++ ([s] ++ TL.joinL [s] (q :: r))).length + 1 = _
    rw [List.length_append, List.length_append, List.map_cons, List.sum_cons, List.length_cons (a := p)]
    show p.length + (1 + _) + 1 = _
    omega
theorem mem_join {s c : Nat} : ∀ {ps : List (List Nat)} {p : List Nat}, p ∈ ps → c ∈ p → c ∈ TL.joinL [s] ps
  | [q], p, hp, hc => by
    rw [List.mem_singleton.mp hp] at hc
    exact hc
  | q :: t :: r, p, hp, hc => by
    show c ∈ q ++ ([s] ++ TL.joinL [s] (t :: r))
    rcases List.mem_cons.mp hp with z | z
    · subst z
      exact List.mem_append_left _ hc
    · exact List.mem_append_right _ (List.mem_append_right _ (mem_join z hc))
theorem part_le {p : List Nat} : ∀ {ps : List (List Nat)}, p ∈ ps → p.length ≤ (ps.map (·.length)).sum
  | q :: r, h => by
    rw [List.map_cons, List.sum_cons]
    rcases List.mem_cons.mp h with z | z
    · subst z
      omega
    · have := part_le z
      omega
section
variable {P : Program} {w : World} {K : PySem.W.Frag} {mg : Str → Option Value} {base : Heap}
theorem ev_joinT {σ : L2.St} {H : Hp} {ta tb : TE} {s : List Nat} {ys : List (List Nat)} {p : Addr} (hs : Ev ta σ H (.str (S s))) (hl : Ev tb σ H (.ref p)) (hp : H p = some (.tup (strsV ys))) (hz : (ys.map (·.length)).sum + ys.length * s.length ≤ 16777216) : Ev (tM1 (rJoin K) ta tb) σ H (.str (S (TL.joinL s ys))) := fun H1 e Q q =>
  hs H1 e _ fun H2 e2 => ⟨⟨_, rfl⟩, hl H2 (e.trans e2) _ fun H3 e3 => ⟨S s, p, ys.map S, rfl, rfl, .inr (by rw [List.map_map]; exact st_of (((e.trans e2).trans e3) _ _ hp)), by
    rw [SX.lens, List.length_map, S_len]
    exact hz, by
    rw [SX.join_S]
    exact q H3 (e2.trans e3)⟩⟩
theorem dta_strs {H : Hp} : ∀ ws : List (List Nat), DtA H (strsV ws) (ws.map fun l => .str (S l))
  | [] => .nil
  | w :: r => .cons (.str _) (dta_strs r)
theorem canL_strs : ∀ {ws : List (List Nat)}, (∀ x ∈ ws, ∀ c ∈ x, c < 128) → PyData.canLayAll0 (ws.map fun l => PyData.str (S l)) = true
  | [], _ => rfl
  | w :: r, h => can_cons (canS (by
      unfold okS
      rw [List.all_eq_true]
      exact fun c hc => decide_eq_true (by have := h w List.mem_cons_self c hc; omega))) (canL_strs fun x hx => h x (List.mem_cons_of_mem _ hx))
theorem depth_strs : ∀ ws : List (List Nat), PyData.depthAll (ws.map fun l => PyData.str (S l)) = 0
  | [] => rfl
  | w :: r => by
    show max 0 (PyData.depthAll (r.map fun l => PyData.str (S l))) = 0
    rw [depth_strs r]
    rfl
theorem shaped_strs {ws : List (List Nat)} (h : ∀ x ∈ ws, ∀ c ∈ x, c < 128) : SeqAt.shaped (.list (ws.map fun l => .str (S l))) = true := by
  show (PyData.canLayAll0 _ && decide (PyData.depthAll _ + 1 ≤ 64)) = true
  rw [canL_strs h, depth_strs]
  rfl
theorem shaped_strsT {ws : List (List Nat)} (h : ∀ x ∈ ws, ∀ c ∈ x, c < 128) : SeqAt.shaped (.tuple (ws.map fun l => .str (S l))) = true := by
  show (PyData.canLayAll0 _ && decide (PyData.depthAll _ + 1 ≤ 64)) = true
  rw [canL_strs h, depth_strs]
  rfl
/-! ### records are made -/
def sp_Record___init__ (C : Addr) (_ : PySem.W.Frag) : Sp := fun vs H Q _ => ∃ (p dx o t q : Addr) (k : Nat), vs = [.ref p, .ref o, .int (k : Int), .ref t, .ref q] ∧ H p = some (.ins C dx []) ∧ ∀ H', H' p = some (.ins C dx (fldR o k t q)) → (∀ b x, H b = some x → b ≠ p → H' b = some x) → Q .non H'
theorem ok_Record___init__ {f : Addr} {C_Store C_Record : Addr} {fd : FuncData} (F : Fun K "__init__" "Record.__init__" s_Record___init__ f fd) (T : Tx mg) (G : Gx K mg) (TC_Store : Tc_Store K C_Store) (TC_Record : Tc_Record K C_Record)  : FnOk P w K mg base CX0 1 f fd ["self", "outputs", "rule_key", "needs", "results"] (sp_Record___init__ C_Record K) := by
  refine F.ok sc_Record___init__ (fun vs H Q E h => ?_) (fun cdv A outer s H vs Q E hr h => ?_)
  · obtain ⟨p, dx, o, t, q, k, rfl, _⟩ := h
    rfl
  · obtain ⟨p, dx, o, t, q, k, rfl, hp, kk⟩ := h
    refine ⟨_, (pss_cons (ps_fld (pv 0) (pv 1) rfl)
      (pss_cons (ps_fld (pv 0) (pv 2) rfl)
      (pss_cons (ps_fld (pv 0) (pv 3) rfl)
      (pss_one (ps_fld (pv 0) (pv 4) rfl))))), ?_⟩
    refine ⟨_, rfl, _, rfl, p, C_Record, dx, _, rfl, hp, TC_Record.cl, TC_Record.na_outputs, (by show 0 < 1000; decide), ?_⟩
    refine ⟨_, rfl, _, rfl, p, C_Record, dx, _, rfl, upd_same, TC_Record.cl, TC_Record.na_rule_key, (by show 1 < 1000; decide), ?_⟩
    refine ⟨_, rfl, _, rfl, p, C_Record, dx, _, rfl, upd_same, TC_Record.cl, TC_Record.na_needs, (by show 2 < 1000; decide), ?_⟩
    refine ⟨_, rfl, _, rfl, p, C_Record, dx, _, rfl, upd_same, TC_Record.cl, TC_Record.na_results, (by show 3 < 1000; decide), ?_⟩
    refine kk _ upd_same fun b x hb hne => ?_
    rw [upd_ne hne, upd_ne hne, upd_ne hne, upd_ne hne]
    exact hb
/-- a new record -/
def Rr (C : Addr) (H : Hp) (r : Rc) (Q : VK) : Prop := ∀ p H1, H p = none → Ex H H1 → RcO C H1 p r → Q (.ref p) H1
theorem s_retRec {C : Addr} {H : Hp} {σ : L2.St} {D : Ends} {to tk tt tq : TE} {r : Rc} (ho : EvU to σ H (strsV r.outs)) (hk : ∀ H1, Ex H H1 → Ev tk σ H1 (.int (r.key : Int))) (ht : ∀ H1, Ex H H1 → EvNt tt σ H1 (r.needs.map ndD)) (hq : ∀ H1, Ex H H1 → EvU tq σ H1 (r.res.map fun n : Nat => V.int (n : Int))) (q : Rr C H r D.rt) :
    tRet (tMake C (sp_Record___init__ C K) [] E0 (tCons to (tCons tk (tCons tt (tCons tq tNil))))) D σ H :=
  ho H (Ex.refl H) _ fun o H1 no e1 h1 => hk H1 e1 H1 (Ex.refl H1) _ fun H2 e2 => ht H2 (e1.trans e2) H2 (Ex.refl H2) _ fun t as H3 nt e3 h3 h4 => hq H3 ((e1.trans e2).trans e3) H3 (Ex.refl H3) _ fun u H4 nu e4 h5 => by
    intro p dx np nx ne
    refine ⟨p, dx, o, t, u, r.key, rfl, upd_same, fun H5 h6 k6 => ⟨rfl, ?_⟩⟩
    have e45 : Ex H4 H5 := fun b x hb => k6 b x (by rw [upd_ne (ne_of_none hb np), upd_ne (ne_of_none hb nx)]; exact hb) (ne_of_none hb np)
    have e35 := e4.trans e45
    exact q p H5 (fresh_back (((e1.trans e2).trans e3).trans e4) np) ((((e1.trans e2).trans e3).trans e4).trans e45)
      ⟨dx, o, t, u, as, h6, (e2.trans (e3.trans e35)) _ _ h1, e35 _ _ h3, Paired.mapP h4 fun _ _ z => e35 _ _ z, e45 _ _ h5⟩
/-! ### records are written -/
/-- a record that is good and not too long -/
structure Fn (r : Rc) : Prop where
  g : GRc r
  x : Txl (fmtRc r)
theorem Fn.word {r : Rc} (f : Fn r) {w : List Nat} (hw : w ∈ Kn.Rp.words r) : w.length ≤ 2000 ∧ ∀ c ∈ w, c < 128 := by
  have h1 := join_len 32 (Kn.Rp.words r) (by unfold Kn.Rp.words; simp)
  have h2 := part_le hw
  have h3 : (Kn.Rp.words r).length = 4 := rfl
  have h4 := f.x.1
  have h5 : (fmtRc r).length = (TL.joinL [32] (Kn.Rp.words r)).length := rfl
  exact ⟨by omega, fun c hc => f.x.2 c (mem_join hw hc)⟩
theorem Fn.out {r : Rc} (f : Fn r) : (r.outs.map (·.length)).sum + r.outs.length ≤ 2001 ∧ ∀ o ∈ r.outs, ∀ c ∈ o, c < 128 := by
  have h := f.word (w := TL.joinL [44] r.outs) (by unfold Kn.Rp.words; simp)
  have := join_len 44 r.outs f.g.o1
  exact ⟨by omega, fun o ho c hc => h.2 c (mem_join ho hc)⟩
theorem res_ne {r : Rc} (g : GRc r) : r.res.map TL.numL ≠ [] := fun z => by
  have h1 := congrArg List.length z
  rw [List.length_map, g.rl] at h1
  exact g.o1 (List.length_eq_zero_iff.mp h1)
theorem Fn.rs {r : Rc} (f : Fn r) : ((r.res.map TL.numL).map (·.length)).sum + r.res.length ≤ 2001 := by
  have h := f.word (w := TL.joinL [44] (r.res.map TL.numL)) (by unfold Kn.Rp.words; simp)
  have := join_len 44 (r.res.map TL.numL) (res_ne f.g)
  rw [List.length_map] at this
  omega
theorem Fn.need {r : Rc} (f : Fn r) {d : Nd} (hd : d ∈ r.needs) : (fmtNd d).length ≤ 2000 ∧ (∀ c ∈ fmtNd d, c < 128) ∧ Szd d := by
  have h := f.word (w := fmtNds r.needs) (by unfold Kn.Rp.words; simp)
  have h0 : ¬ r.needs.length = 0 := fun z => by rw [List.length_eq_zero_iff.mp z] at hd; cases hd
  unfold fmtNds at h
  rw [if_neg h0] at h
  have hm : fmtNd d ∈ r.needs.map fmtNd := List.mem_map.mpr ⟨d, hd, rfl⟩
  have h1 := join_len 59 (r.needs.map fmtNd) (fun z => h0 (by have := congrArg List.length z; simpa using this))
  have h2 := part_le hm
  rw [List.length_map] at h1
  have h3 : (fmtNd d).length ≤ 2000 := by omega
  have h4 := join_len 58 (d.ws ++ [fmtSn d.sn]) (by simp)
  have h5 : (TL.joinL [58] (d.ws ++ [fmtSn d.sn])).length = (fmtNd d).length := rfl
  have h6 : (d.ws ++ [fmtSn d.sn]).length = d.ws.length + 1 := List.length_append
  have h7 := (f.g.nd d hd).ws
  refine ⟨h3, fun c hc => h.2 c (mem_join hm hc), ?_, by omega⟩
  have hpos : d.ws.length ≤ (d.ws.map (·.length)).sum + 5 := by
    cases f.g.nd d hd <;> simp
  rw [List.map_append, List.sum_append] at h4
  have h8 : d.ws.length ≤ 3 := by cases f.g.nd d hd <;> simp
  omega
theorem Fn.nds {r : Rc} (f : Fn r) : ((r.needs.map fmtNd).map (·.length)).sum + r.needs.length ≤ 2001 := by
  by_cases h0 : r.needs.length = 0
  · rw [List.length_eq_zero_iff.mp h0]
    decide
  · have h := f.word (w := fmtNds r.needs) (by unfold Kn.Rp.words; simp)
    unfold fmtNds at h
    rw [if_neg h0] at h
    have h1 := join_len 59 (r.needs.map fmtNd) (fun z => h0 (by have := congrArg List.length z; simpa using this))
    rw [List.length_map] at h1
    omega
def sp_format_record (C : Addr) (_ : PySem.W.Frag) : Sp := sp2 (fun (p : Addr) (_ : Rc) => [.ref p]) (fun p r H => RcO C H p r ∧ Fn r) (fun _ r => .str (S (fmtRc r)))
theorem ok_format_record {f : Addr} {C_Store C_Record : Addr} {fd : FuncData} (F : Fun K "format_record" "format_record" s_format_record f fd) (T : Tx mg) (G : Gx K mg) (TC_Store : Tc_Store K C_Store) (TC_Record : Tc_Record K C_Record) (C__format_need : Kn.Cl P w K mg base 2 "_format_need" (sp__format_need K)) : FnOk P w K mg base CX0 3 f fd ["record"] (sp_format_record C_Record K) := by
  refine F.ok sc_format_record (fun vs H Q E h => ?_) (fun cdv A outer s H vs Q E hr h => ?_)
  · obtain ⟨a, d, rfl, _⟩ := h
    rfl
  · obtain ⟨p, r, rfl, ⟨ho, f⟩, q⟩ := h
    refine ⟨_, (pss_cons (ps_setLc (i := 1) (own := [("need", 4)]) rfl sc_format_record.nd rfl rfl (sw_true rfl rfl rfl (by decide +kernel)) (pi_tup (pe_fld (pv 0) rfl)) (blkOk_by (own := [("need", 4)]) (N := N_format_record) (sc := defScope s_format_record) (by decide +kernel)) (fun _ _ _ _ _ => pg_name (i := 4) sc_format_record.nd rfl (Or.inl rfl)) (fun _ _ _ _ _ => pts_nil) (fun _ _ _ _ _ => (Kn.pe_cl C__format_need hr (by decide) (by rfl) (pa_cons (pv 4) pa_nil))))
      (pss_cons (ps_setLc (i := 2) (own := [("key", 5)]) rfl sc_format_record.nd rfl rfl (sw_true rfl rfl rfl (by decide +kernel)) (pi_tup (pe_fld (pv 0) rfl)) (blkOk_by (own := [("key", 5)]) (N := N_format_record) (sc := defScope s_format_record) (by decide +kernel)) (fun _ _ _ _ _ => pg_name (i := 5) sc_format_record.nd rfl (Or.inl rfl)) (fun _ _ _ _ _ => pts_nil) (fun _ _ _ _ _ => (pe_joined1 (pe_fmt (pv 5)))))
      (pss_cons (ps_set (i := 3) sc_format_record.nd rfl (Or.inl rfl) (pe_lst (pa_cons (Kn.pe_joinN (pe_join pe_str (pe_fld (pv 0) rfl))) (pa_cons (pe_joined1 (pe_fmt (pe_fld (pv 0) rfl))) (pa_cons (Kn.pe_joinN (pe_join pe_str (pv 1))) (pa_cons (Kn.pe_joinN (pe_join pe_str (pv 2))) pa_nil))))))
      (pss_cons (ps_if (pt_cmpR (op_eqD hr.units) (pv 1) (pe_lst pa_nil) (nomark _)) (pss_one (ps_asg (C8.pe_gc (by rfl) T.c_NOTHING) (pg_sub (pv 3) pe_int set_list))) pss_nil)
      (pss_one (ps_ret (Kn.pe_joinN (pe_join pe_str (pv 3))))))))), ?_⟩
    obtain ⟨dx, o, t, u, as, h1, h2, h3, h4, h5⟩ := ho.ex
    have hal : as.length = r.needs.length := by rw [Paired.length h4, List.length_map]
    have n60 := f.g.n60
    refine q_asgL (xs := strsV (r.needs.map fmtNd)) ?_ fun a H1 na e1 ha => ?_
    · have z := el_lcT (K := K) (σ := [some (.ref p), none, none, none, none, none]) (H := H) (a := t) (xs := as.map V.ref) (tl := tFld K (tVar 0) "needs") (te := tCall (sp__format_need K) [] E0 (tCons (tVar 4) tNil)) (t := tYes) (j := 4) (vs := [4]) (fun _ => true) (fun i => ((r.needs.map fmtNd)[i]?.map fun l => V.str (S l)).getD .non)
        (ev_fld (ev_var rfl) h1 TC_Record.cl TC_Record.na_needs (fr_n o r.key t u)) h3 (by rw [List.length_map]; omega) (fun _ => rfl) (fun _ _ _ _ _ => et_yes) (fun i x H1 e1 hi _ => ?_)
      · rw [List.length_map, hal, ← List.length_map (f := fmtNd) (as := r.needs), given_all] at z
        exact z
      · rw [List.getElem?_map] at hi
        obtain ⟨a, ha, rfl⟩ := Option.map_eq_some_iff.mp hi
        obtain ⟨y, hy, hay⟩ := pair_get h4 ha
        rw [List.getElem?_map] at hy
        obtain ⟨d, hd, rfl⟩ := Option.map_eq_some_iff.mp hy
        show Ev _ _ _ (((r.needs.map fmtNd)[i]?.map fun l => V.str (S l)).getD .non)
        rw [List.getElem?_map, hd]
        have hm := List.mem_of_getElem? hd
        exact ev_c2 (a := a) (b := d) (ea_cons (ev_var rfl) ea_nil) fun H2 e2 => ⟨e2 _ _ (e1 _ _ hay), (f.g.nd d hm).sn, (f.need hm).2.2⟩
    · refine q_asgL (xs := strsV (r.res.map TL.numL)) ?_ fun b H2 nb e2 hb => ?_
      · rw [show strsV (r.res.map TL.numL) = r.res.map fun n => V.str (S (TL.numL n)) from List.map_map ..]
        exact el_lcTM (g := fun n : Nat => V.int (n : Int)) (ev_fld (ev_var rfl) (e1 _ _ h1) TC_Record.cl TC_Record.na_results (fr_r o r.key t u)) (e1 _ _ h5) (by rw [f.g.rl]; have := f.g.o3; omega) (fun _ => rfl) fun n hn H2 e2 => ev_fmtN (ev_var rfl) (f.g.rk n hn).log
      · have e12 := e1.trans e2
        have hfo := f.out.1
        have hfn := f.nds
        have hfr := f.rs
        have hw4 : (strsV [TL.joinL [44] r.outs, TL.numL r.key, TL.joinL [59] (r.needs.map fmtNd), TL.joinL [44] (r.res.map TL.numL)]).length ≤ 100000 := by show 4 ≤ 100000; decide
        refine q_asgL (xs := strsV [TL.joinL [44] r.outs, TL.numL r.key, TL.joinL [59] (r.needs.map fmtNd), TL.joinL [44] (r.res.map TL.numL)]) (el_lst (ea_cons (ev_joinT (ev_cS (l := [44]) rfl) (ev_fld (ev_var rfl) (e12 _ _ h1) TC_Record.cl TC_Record.na_outputs (fr_o o r.key t u)) (e12 _ _ h2) (by show _ + _ * 1 ≤ _; omega)) (ea_cons (ev_fmtN (ev_fld (ev_var rfl) (e12 _ _ h1) TC_Record.cl TC_Record.na_rule_key (fr_k o r.key t u)) f.g.kk.log) (ea_cons (ev_joinV (ev_cS (l := [59]) rfl) (ev_var rfl) (sq_of (e2 _ _ ha)) (by rw [List.length_map]; show _ + _ * 1 ≤ _; omega)) (ea_cons (ev_joinV (ev_cS (l := [44]) rfl) (ev_var rfl) (sq_of hb) (by rw [List.length_map]; show _ + _ * 1 ≤ _; omega)) ea_nil)))) hw4) fun c H3 nc e3 hc => ?_
        have e13 := e12.trans e3
        have hsh : ∀ x ∈ r.needs.map fmtNd, ∀ c ∈ x, c < 128 := fun x hx => by
          obtain ⟨d, hd, rfl⟩ := List.mem_map.mp hx
          exact (f.need hd).2.1
        have hwd := fun w hw => f.word (w := w) hw
        have key : ∀ (H' : Hp) (ws : List (List Nat)), Ex H H' → H' c = some (.lst (strsV ws)) → ws = Kn.Rp.words r → Ev (tM1 (rJoin K) (tC (.str (Str.ofString " "))) (tVar 3)) [some (.ref p), some (.ref a), some (.ref b), some (.ref c), none, none] H' (.str (S (fmtRc r))) := fun H' ws e hc' hws => by
          subst hws
          refine ev_joinV (ev_cS (l := [32]) rfl) (ev_var rfl) (sq_of hc') ?_
          have h1 := join_len 32 (Kn.Rp.words r) (by unfold Kn.Rp.words; simp)
          have h3 : (Kn.Rp.words r).length = 4 := rfl
          have h4 := f.x.1
          have h5 : (fmtRc r).length = (TL.joinL [32] (Kn.Rp.words r)).length := rfl
          show _ + _ * 1 ≤ _
          omega
        have hev : Ev (tOp (rEqD K) (tVar 1) (tLst tNil)) [some (.ref p), some (.ref a), some (.ref b), some (.ref c), none, none] H3 (.bl (PyData.eqv (.list ((r.needs.map fmtNd).map fun l => .str (S l))) (.list []))) :=
          ev_eqD (evd_of (ev_var rfl) (.lst (e3 _ _ (e2 _ _ ha)) (dta_strs _))) (evd_lst eda_nil (by show 0 ≤ 100000; decide)) (shaped_strs hsh) (shaped_strs (ws := []) (fun _ h => nomatch h))
        by_cases h0 : r.needs.length = 0
        · have hn0 := List.length_eq_zero_iff.mp h0
          refine q_when (b := true) (et_is (et_test hev) (by rw [hn0]; rfl)) (fun _ H4 e4 => ?_) (fun z => nomatch z)
          refine s_setL (j := 2) (e4 _ _ hc) (ev_cS (l := [45]) rfl) (ev_var rfl) ev_c (by show 2 < 4; decide) fun H5 e5 => ?_
          refine s_ret (key _ [TL.joinL [44] r.outs, TL.numL r.key, [45], TL.joinL [44] (r.res.map TL.numL)] (Ex.mut ((e13.trans e4).trans e5) (fresh_back e12 nc)) upd_same ?_) fun H6 e6 => q H6 ((Ex.mut ((e13.trans e4).trans e5) (fresh_back e12 nc)).trans e6)
          unfold Kn.Rp.words fmtNds
          rw [if_pos h0]
        · refine q_when (b := false) (et_is (et_test hev) (by
            cases hn : r.needs with
            | nil => rw [hn] at h0; exact absurd rfl h0
            | cons d t => rfl)) (fun z => nomatch z) fun _ H4 e4 => ?_
          refine s_ret (key _ _ (e13.trans e4) (e4 _ _ hc) ?_) fun H6 e6 => q H6 ((e13.trans e4).trans e6)
          unfold Kn.Rp.words fmtNds
          rw [if_neg h0]
end

/-! ### records are read -/
theorem el_if {σ : L2.St} {H : Hp} {t : TT} {ta tb : TE} {b : Bool} {xs : List V} (h : EvT t σ H b) (h1 : b = true → EvL ta σ H xs) (h2 : b = false → EvL tb σ H xs) : EvL (tIf t ta tb) σ H xs := fun H1 e Q q => h H1 e _ fun H2 e2 => by
  cases b with
  | true => exact h1 rfl H2 (e.trans e2) _ fun p H3 np e3 hp => q p H3 (fresh_back e2 np) (e2.trans e3) hp
  | false => exact h2 rfl H2 (e.trans e2) _ fun p H3 np e3 hp => q p H3 (fresh_back e2 np) (e2.trans e3) hp
theorem range_get {α : Type} (d : α) (l : List α) : (List.range l.length).map (fun i => l[i]?.getD d) = l := by
  apply List.ext_getElem
  · rw [List.length_map, List.length_range]
  · intro i h1 h2
    rw [List.getElem_map, List.getElem_range, List.getElem?_eq_getElem h2]
    rfl
section
variable {P : Program} {w : World} {K : PySem.W.Frag} {mg : Str → Option Value} {base : Heap}
theorem eu_tupV {σ : L2.St} {H : Hp} {ta : TE} {p : Addr} {xs : List V} (h : Ev ta σ H (.ref p)) (hp : H p = some (.lst xs)) : EvU (tCB (rTupS K) (tCons ta tNil)) σ H xs := fun H1 e Q q => h H1 e _ fun H2 e2 => ⟨p, xs, rfl, .inl ⟨sq_of ((e.trans e2) _ _ hp), fun l hl => q _ _ (fresh_back e2 hl) (e2.trans (Ex.new hl)) upd_same⟩⟩
def Rz1 (H : Hp) (E : XK) (C : Addr) (f : Str) (l : List Nat) : Prop := ∀ d H', Ex H H' → H' d = some (.xd [(f, .str (S l))]) → E (.ref C) (some d) H'
/-- a line with another number of words, or the written form of a record -/
def sp_parse_record (C : Addr) (G : Gx K mg) : Sp := fun vs H Q E => ∃ l : List Nat, vs = [.str (S l)] ∧ l.length ≤ 20000 ∧ ((cut1 32 l).length ≠ 4 → Rz1 H E G.c_InvalidRecord "line" l) ∧ ((cut1 32 l).length = 4 → ∃ r, Fn r ∧ l = fmtRc r ∧ Rr C H r Q)
theorem ns_map {te : TE} {σ : L2.St} {H : Hp} {ys zs : List (List V)} (h : EvNs te σ H ys) (e : ys = zs) : EvNs te σ H zs := by rw [← e]; exact h
theorem ok_parse_record {f : Addr} {C_Store C_Record : Addr} {fd : FuncData} (F : Fun K "parse_record" "parse_record" s_parse_record f fd) (T : Tx mg) (G : Gx K mg) (TC_Store : Tc_Store K C_Store) (TC_Record : Tc_Record K C_Record) (Z_InvalidRecord : Kn.Xk P w K mg base 1 "InvalidRecord" G.c_InvalidRecord (sp_I1 "line" K)) (C__are_outputs : Kn.Cl P w K mg base 3 "_are_outputs" (sp__are_outputs K)) (C__is_number : Kn.Cl P w K mg base 1 "_is_number" (sp__is_number K)) (C__are_needs : Kn.Cl P w K mg base 6 "_are_needs" (sp__are_needs K)) (M_Record : Kn.Mkr P w K mg base 1 "Record" C_Record (sp_Record___init__ C_Record K)) (C__parse_need : Kn.Cl P w K mg base 2 "_parse_need" (sp__parse_need K)) : FnOk P w K mg base (L2.CX P w) 7 f fd ["line"] (sp_parse_record C_Record G) := by
  refine F.okX sc_parse_record (fun vs H Q E h => ?_) (fun cdv A outer s H vs Q E hr h => ?_)
  · obtain ⟨l, rfl, _⟩ := h
    rfl
  · obtain ⟨l, rfl, hl, qz, qr⟩ := h
    refine ⟨_, (pss_cons (ps_set (i := 1) sc_parse_record.nd rfl (Or.inl rfl) (pe_m1 PySem.F.slot_str_split PySem.F.type_str_split Kn.mt_split (pv 0) pe_str))
      (pss_cons (ps_if (pt_cmpR op_ne (pe_callB Kn.cr_lenSeq (by rfl) T.b_len PySem.boot_len (pa_cons (pv 1) pa_nil)) pe_int (nomark _)) (pss_one (Kn.ps_xk Z_InvalidRecord hr (by decide) rfl (takes_of rfl rfl rfl rfl) (by rfl) (pa_cons (pv 0) pa_nil))) pss_nil)
      (pss_cons (ps_set (i := 2) sc_parse_record.nd rfl (Or.inl rfl) (pe_m1 PySem.F.slot_str_split PySem.F.type_str_split Kn.mt_split (pe_ix ix_list (pv 1) pe_int (fun _ _ => rfl)) pe_str))
      (pss_cons (ps_set (i := 3) sc_parse_record.nd rfl (Or.inl rfl) (pe_ifExp (pt_cmpR op_eq (pe_ix ix_list (pv 1) pe_int (fun _ _ => rfl)) (C8.pe_gc (by rfl) T.c_NOTHING) (nomark _)) (pe_lst pa_nil) (pe_m1 PySem.F.slot_str_split PySem.F.type_str_split Kn.mt_split (pe_ix ix_list (pv 1) pe_int (fun _ _ => rfl)) pe_str)))
      (pss_cons (ps_set (i := 4) sc_parse_record.nd rfl (Or.inl rfl) (pe_m1 PySem.F.slot_str_split PySem.F.type_str_split Kn.mt_split (pe_ix ix_list (pv 1) pe_int (fun _ _ => rfl)) pe_str))
      (pss_cons (ps_if (pt_not (PW.pt (pw_and (pt_val (Kn.pe_cl C__are_outputs hr (by decide) (by rfl) (pa_cons (pv 2) pa_nil))) (pw_and (pt_val (Kn.pe_cl C__is_number hr (by decide) (by rfl) (pa_cons (pe_ix ix_list (pv 1) pe_int (fun _ _ => rfl)) pa_nil))) (pw_and (pt_val (Kn.pe_cl C__are_needs hr (by decide) (by rfl) (pa_cons (pv 3) pa_nil))) (pw_and (pt_cmpR op_eq (pe_callB Kn.cr_lenSeq (by rfl) T.b_len PySem.boot_len (pa_cons (pv 4) pa_nil)) (pe_callB Kn.cr_lenSeq (by rfl) T.b_len PySem.boot_len (pa_cons (pv 2) pa_nil)) (nomark _)) (pw_and1 (pt_val (pe_callB (cr_all rfl) (by rfl) T.b_all (by decide +kernel) (pa_cons (pe_lc (own := [("word", 5)]) rfl sc_parse_record.nd (pi_list (pv 4)) (blkOk_by (own := [("word", 5)]) (N := N_parse_record) (sc := defScope s_parse_record) (by decide +kernel)) (fun _ _ _ _ _ => pg_name (i := 5) sc_parse_record.nd rfl (Or.inl rfl)) (fun _ _ _ _ _ => pts_nil) (fun _ _ _ _ _ => (Kn.pe_cl C__is_number hr (by decide) (by rfl) (pa_cons (pv 5) pa_nil)))) pa_nil)))))))))) (pss_one (Kn.ps_xk Z_InvalidRecord hr (by decide) rfl (takes_of rfl rfl rfl rfl) (by rfl) (pa_cons (pv 0) pa_nil))) pss_nil)
      (pss_one (ps_ret (Kn.pe_mkr M_Record hr (by decide) (by rfl) (pa_cons (pe_callTy Kn.cr_tupS (by rfl) T.b_tuple (by decide +kernel) (pa_cons (pv 2) pa_nil)) (pa_cons (pe_callTy Kn.cr_intS (by rfl) T.b_int (by decide +kernel) (pa_cons (pe_ix ix_list (pv 1) pe_int (fun _ _ => rfl)) pa_nil)) (pa_cons (pe_callTy Kn.cr_tupS (by rfl) T.b_tuple (by decide +kernel) (pa_cons (pe_lc (own := [("word", 5)]) rfl sc_parse_record.nd (pi_list (pv 3)) (blkOk_by (own := [("word", 5)]) (N := N_parse_record) (sc := defScope s_parse_record) (by decide +kernel)) (fun _ _ _ _ _ => pg_name (i := 5) sc_parse_record.nd rfl (Or.inl rfl)) (fun _ _ _ _ _ => pts_nil) (fun _ _ _ _ _ => (Kn.pe_cl C__parse_need hr (by decide) (by rfl) (pa_cons (pv 5) pa_nil)))) pa_nil)) (pa_cons (pe_callTy Kn.cr_tupS (by rfl) T.b_tuple (by decide +kernel) (pa_cons (pe_lc (own := [("word", 5)]) rfl sc_parse_record.nd (pi_list (pv 4)) (blkOk_by (own := [("word", 5)]) (N := N_parse_record) (sc := defScope s_parse_record) (by decide +kernel)) (fun _ _ _ _ _ => pg_name (i := 5) sc_parse_record.nd rfl (Or.inl rfl)) (fun _ _ _ _ _ => pts_nil) (fun _ _ _ _ _ => (pe_callTy Kn.cr_intS (by rfl) T.b_int (by decide +kernel) (pa_cons (pv 5) pa_nil)))) pa_nil)) pa_nil))))))))))))), ?_⟩
    refine q_asgL (el_split (c := 32) (ev_var rfl) (ev_cS rfl) (by decide) (by omega)) fun p H1 np e1 hp => ?_
    refine q_when (b := !decide ((cut1 32 l).length = 4)) (et_is (et_test (ev_op (ev_lenW (ws := cut1 32 l) (ev_var rfl) (sq_of hp)) ev_c rv_neI)) (by congr 1; rw [decide_eq_decide]; omega)) (fun hb H2 e2 => ?_) fun hb H2 e2 => ?_
    · have h4 : (cut1 32 l).length ≠ 4 := by simpa using hb
      exact raise1 (W := fun cls d _ H => E cls d H) G.x_InvalidRecord.oe G.n_InvalidRecord_line (by omega) (ev_var rfl) fun d H' e hd => qz h4 d H' ((e1.trans e2).trans e) hd
    · have h4 : (cut1 32 l).length = 4 := by simpa using hb
      obtain ⟨r, f, rfl, q⟩ := qr h4
      have g := f.g
      rw [g.words] at hp
      have hp2 := e2 _ _ hp
      have ix : ∀ {H' : Hp} {i : Nat} {x : List Nat} {σ : L2.St} {j : Int}, Ex H2 H' → (Kn.Rp.words r)[i]? = some x → j = (i : Int) → σ[1]? = some (some (.ref p)) → Ev (tOp (rIxL K) (tVar 1) (tC (.int j))) σ H' (.str (S x)) := fun e hi hj hσ => ev_op (ev_var hσ) ev_c (rv_ixL (sq_of (e _ _ hp2)) (atI_nat' hj (by rw [List.getElem?_map, hi]; rfl)))
      have wl := fun w hw => (f.word (w := w) hw).1
      have hf2 := f.word (w := fmtNds r.needs) (by unfold Kn.Rp.words; simp)
      have hf0 := f.word (w := TL.joinL [44] r.outs) (by unfold Kn.Rp.words; simp)
      have hf3 := f.word (w := TL.joinL [44] (r.res.map TL.numL)) (by unfold Kn.Rp.words; simp)
      have hf1 := f.word (w := TL.numL r.key) (by unfold Kn.Rp.words; simp)
      refine q_asgL (xs := strsV r.outs) ?_ fun a H3 na e3 ha => ?_
      · have z := el_split (tb := tC (.str (Str.ofString ","))) (σ := [some (.str (S (fmtRc r))), some (.ref p), none, none, none, none]) (H := H2) (l := TL.joinL [44] r.outs) (c := 44) (ix (i := 0) (j := 0) (Ex.refl _) rfl rfl rfl) (ev_cS rfl) (by decide) (by omega)
        rw [g.outs] at z
        exact z
      refine q_asgL (xs := strsV (r.needs.map fmtNd)) ?_ fun b H4 nb e4 hb4 => ?_
      · have hn := g.needs
        refine el_if (b := decide (fmtNds r.needs = [45])) (et_test (ev_op (ix (i := 2) (j := 2) e3 rfl rfl rfl) (ev_cS (l := [45]) rfl) rv_eqS)) (fun hb => ?_) fun hb => ?_
        · unfold needW at hn
          rw [if_pos (of_decide_eq_true hb)] at hn
          rw [← hn]
          exact el_lst ea_nil (by show 0 ≤ 100000; decide)
        · unfold needW at hn
          rw [if_neg (of_decide_eq_false hb)] at hn
          rw [← hn]
          exact el_split (c := 59) (ix (i := 2) (j := 2) e3 rfl rfl rfl) (ev_cS rfl) (by decide) (by omega)
      refine q_asgL (xs := strsV (r.res.map TL.numL)) ?_ fun c H5 nc e5 hc => ?_
      · have z := el_split (tb := tC (.str (Str.ofString ","))) (σ := [some (.str (S (fmtRc r))), some (.ref p), some (.ref a), some (.ref b), none, none]) (H := H4) (l := TL.joinL [44] (r.res.map TL.numL)) (c := 44) (ix (i := 3) (j := 3) (e3.trans e4) rfl rfl rfl) (ev_cS rfl) (by decide) (by omega)
        rw [g.res] at z
        exact z
      have e25 := (e3.trans e4).trans e5
      have hfo := f.out
      have hfn := f.nds
      have w1 : Wds K H5 a r.outs := ⟨sq_of ((e4.trans e5) _ _ ha), by omega, fun x hx => by have := part_le hx; omega⟩
      have w2 : Wds K H5 b (r.needs.map fmtNd) := ⟨sq_of (e5 _ _ hb4), by rw [List.length_map]; omega, fun x hx => by have := part_le hx; omega⟩
      have w3 : SqL K H5 c ((r.res.map TL.numL).map fun l => V.str (S l)) := sq_of hc
      have hres : ∀ x ∈ r.res.map TL.numL, isNum x = true ∧ x.length ≤ 600 := fun x hx => by
        obtain ⟨n, hn, rfl⟩ := List.mem_map.mp hx
        exact ⟨(g.rk n hn).num, (g.rk n hn).len⟩
      have hrl := g.rl
      have ho3 := g.o3
      refine q_when (b := false) (et_is (et_not (et_and (a := true) (et_is (et_B (ev_c2 (a := a) (b := r.outs) (ea_cons (ev_var rfl) ea_nil) fun _ e => ⟨w1.mono e, fun _ => g.on⟩)) g.outs_ok) fun _ => et_and (a := true) (et_is (et_B (ev_c1 (a := TL.numL r.key) (ea_cons (ix (i := 1) (j := 1) e25 rfl rfl rfl) ea_nil) fun _ _ => by omega)) g.kk.num) fun _ => et_and (a := true) (et_is (et_B (ev_c2 (a := b) (b := r.needs.map fmtNd) (ea_cons (ev_var rfl) ea_nil) fun _ e => ⟨w2.mono e, fun _ => g.quests⟩)) g.needs_ok) fun _ => et_and (a := true) (et_is (et_test (ev_op (ev_lenW (ws := r.res.map TL.numL) (ev_var rfl) w3) (ev_lenW (ws := r.outs) (ev_var rfl) w1.1) rv_eqI)) (by rw [List.length_map, hrl]; exact decide_eq_true rfl)) fun _ => et_is (et_B (ev_all (p := isNum) (xs := r.res.map TL.numL) (el_lcM (g := fun l => V.str (S l)) (ev_var rfl) w3 (by rw [List.length_map]; omega) (fun _ => rfl) fun n hn H2 e2 => ev_c1 (a := n) (ea_cons (ev_var rfl) ea_nil) fun _ _ => by have := (hres n hn).2; omega))) (by rw [List.all_eq_true]; exact fun x hx => (hres x hx).1))) rfl) (fun z => nomatch z) fun _ H6 e6 => ?_
      have e16 := (e1.trans e2).trans (e25.trans e6)
      have e56 := e6
      refine s_retRec (r := r) (eu_tupV (ev_var rfl) (((e4.trans e5).trans e6) _ _ ha)) (fun H7 e7 => ?_) (fun H7 e7 => nt_tup ?_) (fun H7 e7 => eu_tupL ?_) fun p H7 np e7 h7 => q p H7 (fresh_back e16 np) (e16.trans e7) h7
      · have hk := g.kk.len
        exact ev_is (ev_intS (ix (i := 1) (j := 1) ((e25.trans e6).trans e7) rfl rfl rfl) (intS (TL.numL_digits r.key) (TL.numL_ne r.key) (by omega)) (by omega)) (by rw [TL.numL_val])
      · have z := ns_lcL (K := K) (σ := [some (.str (S (fmtRc r))), some (.ref p), some (.ref a), some (.ref b), some (.ref c), none]) (H := H7) (a := b) (xs := strsV (r.needs.map fmtNd)) (tl := tVar 3) (te := tCall (sp__parse_need K) [] E0 (tCons (tVar 5) tNil)) (j := 5) (vs := [5]) (fun i => (r.needs.map ndD)[i]?.getD []) (ev_var rfl) (sq_of (((e5.trans e6).trans e7) _ _ hb4)) (by rw [strsV_len, List.length_map]; omega) (fun _ => rfl) (fun i x H8 e8 hi => ?_)
        · refine ns_map z ?_
          rw [strsV_len, List.length_map, ← List.length_map (f := ndD) (as := r.needs)]
          exact range_get [] _
        · unfold strsV at hi
          rw [List.map_map, List.getElem?_map] at hi
          obtain ⟨d, hd, rfl⟩ := Option.map_eq_some_iff.mp hi
          have hm := List.mem_of_getElem? hd
          show EvU _ _ _ ((r.needs.map ndD)[i]?.getD [])
          rw [List.getElem?_map, hd]
          exact eu_call (ea_cons (ev_var rfl) ea_nil) fun H9 e9 Q q E => ⟨d, rfl, g.nd d hm, by have := (f.need hm).1; omega, q⟩
      · rw [show (r.res.map fun n : Nat => V.int (n : Int)) = (r.res.map TL.numL).map fun l => V.int ((NumText.digitsVal l : Nat) : Int) by
          rw [List.map_map]
          refine List.map_congr_left fun n _ => ?_
          show _ = V.int ((NumText.digitsVal (TL.numL n) : Nat) : Int)
          rw [TL.numL_val]]
        exact el_lcM (g := fun l => V.str (S l)) (ev_var rfl) (sq_of ((e6.trans e7) _ _ hc)) (by rw [List.length_map]; omega) (fun _ => rfl) fun n hn H2 e2 => by
          obtain ⟨h1, h2⟩ := hres n hn
          obtain ⟨h3, h4⟩ := isnum_digits h1
          exact ev_intS (ev_var rfl) (intS h3 h4 (by omega)) (by omega)
end

section
variable {P : Program} {w : World} {K : PySem.W.Frag} {mg : Str → Option Value} {base : Heap}
def sp__law_cell (K : PySem.W.Frag) : Sp := sp3 (fun (a : Addr) (_ : List Int) (k : Nat) => [.ref a, .int (k : Int)]) (fun a ns _ H => SqL K H a (ns.map V.int)) (fun _ ns k => .int (L2.cellOf ns k))
theorem ok__law_cell {f : Addr} {C_Store C_Record : Addr} {fd : FuncData} (F : Fun K "_law_cell" "_law_cell" s__law_cell f fd) (T : Tx mg) (G : Gx K mg) (TC_Store : Tc_Store K C_Store) (TC_Record : Tc_Record K C_Record)  : FnOk P w K mg base CX0 1 f fd ["script", "k"] (sp__law_cell K) := by
  refine F.ok sc__law_cell (fun vs H Q E h => ?_) (fun cdv A outer s H vs Q E hr h => ?_)
  · obtain ⟨a, ns, k, rfl, _⟩ := h
    rfl
  · obtain ⟨a, ns, k, rfl, hS, q⟩ := h
    refine ⟨_, (pss_cons (ps_if (pt_cmpR op_lt (pv 1) (pe_callB Kn.cr_lenSeq (by rfl) T.b_len PySem.boot_len (pa_cons (pv 0) pa_nil)) (nomark _)) (pss_one (ps_ret (pe_ix ix_list (pv 0) (pv 1) (fun _ _ => rfl)))) pss_nil)
      (pss_one (ps_ret pe_int))), ?_⟩
    refine q_when (et_test (ev_op (ev_var rfl) (ev_len (ev_var rfl) hS) rv_lt)) (fun hb H1 e1 => ?_) (fun hb H1 e1 => ?_)
    · have hk : k < ns.length := by
        rw [List.length_map, decide_eq_true_eq] at hb
        omega
      exact s_ret (ev_op (ev_var rfl) (ev_var rfl) (rv_ixL (ex_l e1 hS) (atI_cell hk))) fun H2 e2 => q H2 (e1.trans e2)
    · have hk : ¬ k < ns.length := by
        rw [List.length_map, decide_eq_false_iff_not] at hb
        omega
      refine s_ret ev_c fun H2 e2 => ?_
      have z : Q (.int (L2.cellOf ns k)) H2 := q H2 (e1.trans e2)
      rw [cell_out hk] at z
      exact z
/-! ### drawn numbers: all that is asked of them is that they are below 1000 -/
def sp__law_numbers (_ : PySem.W.Frag) : Sp := fun vs H Q _ => ∃ (c : Int) (n : Nat), vs = [.int c, .int (n : Int)] ∧ n ≤ 1000 ∧ ∀ ns : List Nat, ns.length = n → (∀ x ∈ ns, x < 1000) → Rl H (ns.map fun x : Nat => V.int (x : Int)) Q
theorem nums_snoc {ns : List Nat} {z : Int} {n : Nat} (hz : z = (n : Int)) : (ns.map fun x : Nat => V.int (x : Int)) ++ [V.int z] = (ns ++ [n]).map fun x : Nat => V.int (x : Int) := by
  rw [List.map_append, hz]
  rfl
theorem nums_lt {ns : List Nat} {n : Nat} (h : ∀ x ∈ ns, x < 1000) (hn : n < 1000) : ∀ x ∈ ns ++ [n], x < 1000 := fun x hx => by
  rcases List.mem_append.mp hx with z | z
  · exact h x z
  · rw [List.mem_singleton.mp z]
    exact hn
theorem ok__law_numbers {f : Addr} {C_Store C_Record : Addr} {fd : FuncData} (F : Fun K "_law_numbers" "_law_numbers" s__law_numbers f fd) (T : Tx mg) (G : Gx K mg) (TC_Store : Tc_Store K C_Store) (TC_Record : Tc_Record K C_Record)  : FnOk P w K mg base CX0 1 f fd ["cell", "count"] (sp__law_numbers K) := by
  refine F.ok sc__law_numbers (fun vs H Q E h => ?_) (fun cdv A outer s H vs Q E hr h => ?_)
  · obtain ⟨c, n, rfl, _⟩ := h
    rfl
  · obtain ⟨c, n, rfl, hn, q⟩ := h
    refine ⟨_, (pss_cons (ps_set (i := 2) sc__law_numbers.nd rfl (Or.inl rfl) (pe_callB Kn.cr_abs (by rfl) T.b_abs (by decide +kernel) (pa_cons (pe_callTy Kn.cr_int1 (by rfl) T.b_int (by decide +kernel) (pa_cons (pv 0) pa_nil)) pa_nil)))
      (pss_cons (ps_set (i := 3) sc__law_numbers.nd rfl (Or.inl rfl) (pe_cmpR op_ge (pv 2) pe_int (nomark _)))
      (pss_cons (ps_set (i := 4) sc__law_numbers.nd rfl (Or.inl rfl) (pe_op op_add (pe_op op_mod (pe_callTy Kn.cr_int1 (by rfl) T.b_int (by decide +kernel) (pa_cons (pv 2) pa_nil)) pe_int) pe_int))
      (pss_cons (ps_set (i := 5) sc__law_numbers.nd rfl (Or.inl rfl) (pe_lst pa_nil))
      (pss_cons (ps_for PassesOwn.never rfl (pi_range1 rfl T.b_range (pa_cons (pv 1) pa_nil)) (pg_name (i := 6) sc__law_numbers.nd rfl (Or.inl rfl)) (pss_cons (ps_set (i := 4) sc__law_numbers.nd rfl (Or.inl rfl) (pe_op op_mod (pe_callTy Kn.cr_int1 (by rfl) T.b_int (by decide +kernel) (pa_cons (pe_op op_add (pe_op op_add (pe_op op_mul (pv 4) pe_int) (pe_op op_mul (pv 6) pe_int)) pe_int) pa_nil)) pe_int))
      (pss_one (ps_if (PW.pt (pw_and (pt_val (pv 3)) (pw_and1 (pt_cmpR op_gt (pv 2) pe_int (nomark _))))) (pss_cons (ps_expr (pe_bm PySem.F.plainAttrs_list PySem.F.slot_list_append PySem.F.type_list_append mt_append (pv 5) (pa_cons (pe_op op_mod (pe_callTy Kn.cr_int1 (by rfl) T.b_int (by decide +kernel) (pa_cons (pv 2) pa_nil)) pe_int) pa_nil)))
      (pss_one (ps_set (i := 2) sc__law_numbers.nd rfl (Or.inl rfl) (pe_op op_fdiv (pv 2) pe_int)))) (pss_one (ps_expr (pe_bm PySem.F.plainAttrs_list PySem.F.slot_list_append PySem.F.type_list_append mt_append (pv 5) (pa_cons (pe_op op_mod (pe_callTy Kn.cr_int1 (by rfl) T.b_int (by decide +kernel) (pa_cons (pe_op op_fdiv (pv 4) pe_int) pa_nil)) pe_int) pa_nil))))))))
      (pss_one (ps_ret (pv 5)))))))), ?_⟩
    refine q_asg (v := .int (c.natAbs : Int)) (ev_cb (ea_cons (ev_cb (ea_cons (ev_var rfl) ea_nil) rc_int) ea_nil) rc_abs) fun H1 e1 => ?_
    refine q_asg (ev_op (ev_var rfl) ev_c rv_ge) fun H2 e2 => ?_
    refine q_asg (ev_op (ev_op (ev_cb (ea_cons (ev_var rfl) ea_nil) rc_int) ev_c (rv_mod (by decide))) ev_c rv_I0) fun H3 e3 => ?_
    refine q_asgL (el_lst ea_nil (by show 0 ≤ 100000; decide)) fun pr H4 npr e4 hpr => ?_
    have e14 := ((e1.trans e2).trans e3).trans e4
    have npr0 : H pr = none := fresh_back ((e1.trans e2).trans e3) npr
    generalize decide ((1000000000000000000 : Int) ≤ (c.natAbs : Int)) = b
    refine q_forR1 (n := (n : Int)) (ea_cons (ev_var rfl) ea_nil) (by omega) (fun i σ' H' => ∃ (r m : Int) (ns : List Nat) (y : Option V), σ' = [some (.int c), some (.int (n : Int)), some (.int r), some (.bl b), some (.int m), some (.ref pr), y] ∧ 0 ≤ r ∧ (0 ≤ m ∧ m < 1000000000000) ∧ Ex H H' ∧ H' pr = some (.lst (ns.map fun x : Nat => V.int (x : Int))) ∧ ns.length = i ∧ ∀ x ∈ ns, x < 1000) (fun H5 e5 => ⟨_, _, [], _, rfl, by omega, by omega, e14.trans e5, e5 _ _ hpr, rfl, fun _ h => nomatch h⟩) ?_ ?_
    · rintro i σ' H' hi ⟨r, m, ns, y, rfl, hr0, hm, eH, hp, hl, hlt⟩
      refine q_asg (v := .int ((m * 48271 + (i : Int) * 69621 + 7) % 2147483647)) (ev_op (ev_cb (ea_cons (ev_op (ev_op (ev_op (ev_var rfl) ev_c (rv_mul (.inr ⟨by decide, by decide⟩))) (ev_op (ev_var rfl) ev_c (rv_mul (.inr ⟨by decide, by decide⟩))) rv_I0) ev_c rv_I0) ea_nil) rc_int) ev_c (rv_mod (by decide))) fun H5 e5 => ?_
      have hm2 : 0 ≤ (m * 48271 + (i : Int) * 69621 + 7) % 2147483647 ∧ (m * 48271 + (i : Int) * 69621 + 7) % 2147483647 < 1000000000000 := by omega
      generalize (m * 48271 + (i : Int) * 69621 + 7) % 2147483647 = m' at hm2
      refine s_if (b := b && decide ((0 : Int) < r)) (et_and (et_B (ev_var rfl)) fun _ => et_test (ev_op (ev_var rfl) ev_c rv_gt)) (fun hb H6 e6 => ?_) (fun hb H6 e6 => ?_)
      · refine q_app ((e5.trans e6) _ _ hp) (ev_var rfl) (ev_op (ev_cb (ea_cons (ev_var rfl) ea_nil) rc_int) ev_c (rv_mod (by decide))) (by rw [List.length_map]; omega) fun H7 e7 => ?_
        have e57 := (eH.trans (e5.trans e6)).trans e7
        refine s_asg (ev_op (ev_var rfl) ev_c (rv_fdiv ⟨by decide, by decide⟩)) fun H8 e8 => ⟨r / 1000, m', ns ++ [(r % 1000).toNat], _, rfl, by omega, hm2, (Ex.mut e57 npr0).trans e8, ?_, by rw [List.length_append, hl]; rfl, nums_lt hlt (by omega)⟩
        rw [e8 _ _ upd_same, nums_snoc (n := (r % 1000).toNat) (by omega)]
      · refine s_app ((e5.trans e6) _ _ hp) (ev_var rfl) (ev_op (ev_cb (ea_cons (ev_op (ev_var rfl) ev_c (rv_fdiv ⟨by decide, by decide⟩)) ea_nil) rc_int) ev_c (rv_mod (by decide))) (by rw [List.length_map]; omega) fun H7 e7 => ?_
        have e57 := (eH.trans (e5.trans e6)).trans e7
        refine ⟨r, m', ns ++ [(m' / 13 % 1000).toNat], _, rfl, hr0, hm2, Ex.mut e57 npr0, ?_, by rw [List.length_append, hl]; rfl, nums_lt hlt (by omega)⟩
        rw [upd_same, nums_snoc (n := (m' / 13 % 1000).toNat) (by omega)]
    · rintro σ' H' ⟨r, m, ns, y, rfl, hr0, hm, eH, hp, hl, hlt⟩
      refine s_ret (ev_var rfl) fun H5 e5 => q ns (by rw [hl, Int.toNat_natCast]) hlt pr H5 npr0 (eH.trans e5) (e5 _ _ hp)

end
/-! ### the law's records -/
theorem L37_ok : ∀ j < 37, L37[j]? = some (L37.getD j 0) := by decide +kernel
theorem log_le {n : Nat} (h : n < 2 ^ 1900) : n.log2 < 1920 := by
  by_cases h0 : n = 0
  · subst h0
    decide
  · have := (Nat.log2_lt h0).mpr h
    omega
theorem two_pow : 100000 < 2 ^ 1900 := by decide +kernel
theorem log_sm {n : Nat} (h : n < 100000) : n.log2 < 1920 := log_le (Nat.lt_trans h two_pow)
theorem numL_sm {n : Nat} (h : n < 1000) : (TL.numL n).length ≤ 3 := TL.numL_len (by decide) (by omega)
theorem text_txl {n : Nat} (h : n < 1005) : Txl (textN n) := by
  refine ⟨?_, (text_lt h).2⟩
  unfold textN
  rw [List.length_append]
  have h1 := numL_sm (n := n / 9 % 50) (by omega)
  have h2 : ∀ j < 9, (partsL.getD j []).length ≤ 5 := by decide
  have := h2 (n % 9) (by omega)
  omega
theorem num_at {ns : List Nat} {i : Nat} {j : Int} (hj : j = (i : Int)) (h : i < ns.length) : atI (ns.map fun x : Nat => V.int (x : Int)) j = some (.int ((ns.getD i 0 : Nat) : Int)) := by
  refine atI_nat' hj ?_
  rw [List.getElem?_map, List.getElem?_eq_getElem h, List.getD_eq_getElem?_getD, List.getElem?_eq_getElem h]
  rfl
theorem name_len {n k : Nat} : (nameN n k).length ≤ 5 := by
  unfold nameN
  rw [List.length_append, List.length_append]
  have := numL_sm (n := n % 97) (by omega)
  show 1 + 1 + _ ≤ 5
  omega
theorem name_sum (n m : Nat) : (((List.range m).map (nameN n)).map (·.length)).sum ≤ m * 5 := sum_le fun k _ => name_len
section
variable {P : Program} {w : World} {K : PySem.W.Frag} {mg : Str → Option Value} {base : Heap}
def sp__law_path (_ : PySem.W.Frag) : Sp := sp1 (fun n : Nat => [.int (n : Int)]) (fun n _ => n < 1000) (fun n => .str (S (pathN n)))
theorem ok__law_path {f : Addr} {C_Store C_Record : Addr} {fd : FuncData} (F : Fun K "_law_path" "_law_path" s__law_path f fd) (T : Tx mg) (G : Gx K mg) (TC_Store : Tc_Store K C_Store) (TC_Record : Tc_Record K C_Record)  : FnOk P w K mg base CX0 1 f fd ["n"] (sp__law_path K) := by
  refine F.ok sc__law_path (fun vs H Q E h => ?_) (fun cdv A outer s H vs Q E hr h => ?_)
  · obtain ⟨n, rfl, _⟩ := h
    rfl
  · obtain ⟨n, rfl, hn, q⟩ := h
    refine ⟨_, (pss_cons (ps_set (i := 1) sc__law_path.nd rfl (Or.inr rfl) pe_str)
      (pss_cons (ps_setLc (i := 2) (own := [("k", 3)]) rfl sc__law_path.nd rfl rfl (sw_true rfl rfl rfl (by decide +kernel)) (pi_range1 rfl T.b_range (pa_cons (pe_op op_add pe_int (pe_op op_mod (pe_callTy Kn.cr_int1 (by rfl) T.b_int (by decide +kernel) (pa_cons (pv 0) pa_nil)) pe_int)) pa_nil)) (blkOk_by (own := [("k", 3)]) (N := N__law_path) (sc := defScope s__law_path) (by decide +kernel)) (fun _ _ _ _ _ => pg_name (i := 3) sc__law_path.nd rfl (Or.inl rfl)) (fun _ _ _ _ _ => pts_nil) (fun _ _ _ _ _ => (pe_op Kn.op_addS (pe_op Kn.op_addS (pe_ix ix_str (pv 1) (pe_op op_mod (pe_callTy Kn.cr_int1 (by rfl) T.b_int (by decide +kernel) (pa_cons (pe_op op_add (pv 0) (pe_op op_mul pe_int (pv 3))) pa_nil)) pe_int) (fun _ _ => rfl)) (pe_ix ix_str (pv 1) (pe_op op_mod (pe_callTy Kn.cr_int1 (by rfl) T.b_int (by decide +kernel) (pa_cons (pe_op op_add (pe_op op_fdiv (pv 0) pe_int) (pv 3)) pa_nil)) pe_int) (fun _ _ => rfl))) (pe_callTy Kn.cr_strInt (by rfl) T.b_str (by decide +kernel) (pa_cons (pe_op op_mod (pe_callTy Kn.cr_int1 (by rfl) T.b_int (by decide +kernel) (pa_cons (pv 0) pa_nil)) pe_int) pa_nil)))))
      (pss_one (ps_ret (Kn.pe_joinN (pe_join pe_str (pv 2))))))), ?_⟩
    refine q_asg (ev_cS (l := L37) rfl) fun H1 e1 => ?_
    refine q_asgL (xs := strsV ((List.range (1 + n % 3)).map (nameN n))) ?_ fun p H2 np e2 hp => ?_
    · have z := el_lcR (σ := [some (.int (n : Int)), some (.str (S L37)), none, none]) (H := H1) (n := ((1 + n % 3 : Nat) : Int)) (f := fun k => .str (S (nameN n k))) (j := 3) (vs := [3])
        (ta := tCons (tOp (rI0 fun i j => .int (i + j)) (tC (.int 1)) (tOp (rI (fun _ j => 0 < j) fun i j => .int (i % j)) (tCB rInt1 (tCons (tVar 0) tNil)) (tC (.int 3)))) tNil)
        (te := tOp rAddStr (tOp rAddStr (tOp rIxS (tVar 1) (tOp (rI (fun _ j => 0 < j) fun i j => .int (i % j)) (tCB rInt1 (tCons (tOp (rI0 fun i j => .int (i + j)) (tVar 0) (tOp (rI CMul fun i j => .int (i * j)) (tC (.int 7)) (tVar 3))) tNil)) (tC (.int 26)))) (tOp rIxS (tVar 1) (tOp (rI (fun _ j => 0 < j) fun i j => .int (i % j)) (tCB rInt1 (tCons (tOp (rI0 fun i j => .int (i + j)) (tOp (rI CDiv fun i j => .int (i / j)) (tVar 0) (tC (.int 3))) (tVar 3)) tNil)) (tC (.int 37))))) (tCB rStrInt (tCons (tOp (rI (fun _ j => 0 < j) fun i j => .int (i % j)) (tCB rInt1 (tCons (tVar 0) tNil)) (tC (.int 97))) tNil)))
        (ea_cons (ev_is (ev_op ev_c (Kn.ev_mod (n := n) (m := 3) (ev_cb (ea_cons (ev_var rfl) ea_nil) rc_int) rfl (by decide)) rv_I0) (by congr 1)) ea_nil) (by omega) (fun _ => rfl) fun k H3 e3 hk => ?_
      · rw [Int.toNat_natCast] at z
        rw [show strsV ((List.range (1 + n % 3)).map (nameN n)) = (List.range (1 + n % 3)).map fun k => V.str (S (nameN n k)) from List.map_map ..]
        exact z
      · unfold nameN
        refine ev_op (ev_op (ev_idxS (l := L37) (ev_var rfl) (ev_op (ev_cb (ea_cons (ev_op (ev_var rfl) (ev_op ev_c (ev_var rfl) (rv_mul (.inl ⟨by decide, by decide⟩))) rv_I0) ea_nil) rc_int) ev_c (rv_mod (by decide))) (by decide +kernel) (atI_nat' (j := (n + 7 * k) % 26) (by omega) (L37_ok _ (by omega)))) (ev_idxS (l := L37) (ev_var rfl) (ev_op (ev_cb (ea_cons (ev_op (ev_op (ev_var rfl) ev_c (rv_fdiv ⟨by decide, by decide⟩)) (ev_var rfl) rv_I0) ea_nil) rc_int) ev_c (rv_mod (by decide))) (by decide +kernel) (atI_nat' (j := (n / 3 + k) % 37) (by omega) (L37_ok _ (by omega)))) (rv_addS (by show 1 + 1 ≤ 100000; decide))) (ev_strN (Kn.ev_mod (n := n) (m := 97) (ev_cb (ea_cons (ev_var rfl) ea_nil) rc_int) rfl (by decide)) (log_sm (by omega))) (rv_addS ?_)
        have := numL_sm (n := n % 97) (by omega)
        show 1 + 1 + _ ≤ 100000
        omega
    · refine s_ret (ev_joinV (ev_cS (l := [47]) rfl) (ev_var rfl) (sq_of hp) ?_) fun H3 e3 => q H3 ((e1.trans e2).trans e3)
      have := name_sum n (1 + n % 3)
      rw [List.length_map, List.length_range]
      show _ + _ * 1 ≤ _
      omega
def sp__law_text (_ : PySem.W.Frag) : Sp := sp1 (fun n : Nat => [.int (n : Int)]) (fun n _ => n < 100000) (fun n => .str (S (textN n)))
theorem ok__law_text {f : Addr} {C_Store C_Record : Addr} {fd : FuncData} (F : Fun K "_law_text" "_law_text" s__law_text f fd) (T : Tx mg) (G : Gx K mg) (TC_Store : Tc_Store K C_Store) (TC_Record : Tc_Record K C_Record)  : FnOk P w K mg base CX0 1 f fd ["n"] (sp__law_text K) := by
  refine F.ok sc__law_text (fun vs H Q E h => ?_) (fun cdv A outer s H vs Q E hr h => ?_)
  · obtain ⟨n, rfl, _⟩ := h
    rfl
  · obtain ⟨n, rfl, hn, q⟩ := h
    refine ⟨_, (pss_cons (ps_set (i := 1) sc__law_text.nd rfl (Or.inl rfl) (pe_lst (pa_cons pe_str (pa_cons pe_str (pa_cons pe_str (pa_cons pe_str (pa_cons pe_str (pa_cons pe_str (pa_cons pe_str (pa_cons pe_str (pa_cons pe_str pa_nil)))))))))))
      (pss_one (ps_ret (pe_op Kn.op_addS (pe_ix ix_list (pv 1) (pe_op op_mod (pe_callTy Kn.cr_int1 (by rfl) T.b_int (by decide +kernel) (pa_cons (pv 0) pa_nil)) pe_int) (fun _ _ => rfl)) (pe_callTy Kn.cr_strInt (by rfl) T.b_str (by decide +kernel) (pa_cons (pe_op op_mod (pe_op op_fdiv (pe_callTy Kn.cr_int1 (by rfl) T.b_int (by decide +kernel) (pa_cons (pv 0) pa_nil)) pe_int) pe_int) pa_nil)))))), ?_⟩
    have c := fun (σ : L2.St) (x : Str) (l : List Nat) (h : x.cps.toList = l) => ev_cS (σ := σ) (H := H) h
    refine q_asgL (xs := strsV partsL) (el_lst (ea_cons (ev_cS (l := []) rfl) (ea_cons (ev_cS (l := [97]) rfl) (ea_cons (ev_cS (l := [10]) rfl) (ea_cons (ev_cS (l := [120, 32, 121]) rfl) (ea_cons (ev_cS (l := [126]) rfl) (ea_cons (ev_cS (l := [48]) rfl) (ea_cons (ev_cS (l := [114, 117, 108, 101, 115]) rfl) (ea_cons (ev_cS (l := [92]) rfl) (ea_cons (ev_cS (l := [92, 110]) rfl) ea_nil))))))))) (by show 9 ≤ 100000; decide)) fun p H1 np e1 hp => ?_
    have h9 : n % 9 < partsL.length := Nat.mod_lt _ (by decide)
    have h2 : ∀ j < 9, (partsL.getD j []).length ≤ 5 := by decide
    have h3 := h2 (n % 9) (by omega)
    have h4 := numL_sm (n := n / 9 % 50) (by omega)
    refine s_ret (ev_op (ev_op (ev_var rfl) (Kn.ev_mod (n := n) (m := 9) (ev_cb (ea_cons (ev_var rfl) ea_nil) rc_int) rfl (by decide)) (rv_ixL (sq_of hp) (at_getD (i := n % 9) rfl h9))) (ev_strN (n := n / 9 % 50) (ev_is (ev_op (ev_op (ev_cb (ea_cons (ev_var rfl) ea_nil) rc_int) ev_c (rv_fdiv ⟨by decide, by decide⟩)) ev_c (rv_mod (by decide))) (by congr 1)) (log_sm (by omega))) (rv_addS (by omega))) fun H2 e2 => q H2 (e1.trans e2)
def sp__law_need (_ : PySem.W.Frag) : Sp := fun vs H Q _ => ∃ n k : Nat, vs = [.int (n : Int), .int (k : Int)] ∧ (n < 1000 ∧ k < 4) ∧ Ru H (ndD (needN n k)) Q
theorem ok__law_need {f : Addr} {C_Store C_Record : Addr} {fd : FuncData} (F : Fun K "_law_need" "_law_need" s__law_need f fd) (T : Tx mg) (G : Gx K mg) (TC_Store : Tc_Store K C_Store) (TC_Record : Tc_Record K C_Record) (C_content_key : Kn.Cl P w K mg base 1 "content_key" (sp_content_key K)) (C__law_text : Kn.Cl P w K mg base 1 "_law_text" (sp__law_text K)) (C__law_path : Kn.Cl P w K mg base 1 "_law_path" (sp__law_path K)) : FnOk P w K mg base CX0 2 f fd ["n", "k"] (sp__law_need K) := by
  refine F.ok sc__law_need (fun vs H Q E h => ?_) (fun cdv A outer s H vs Q E hr h => ?_)
  · obtain ⟨n, k, rfl, _⟩ := h
    rfl
  · obtain ⟨n, k, rfl, ⟨hn, hk⟩, q⟩ := h
    refine ⟨_, (pss_cons (ps_set (i := 2) sc__law_need.nd rfl (Or.inl rfl) (Kn.pe_cl C_content_key hr (by decide) (by rfl) (pa_cons (Kn.pe_cl C__law_text hr (by decide) (by rfl) (pa_cons (pe_op op_add (pv 0) (pv 1)) pa_nil)) pa_nil)))
      (pss_cons (ps_if (pt_cmpR op_eq (pe_op op_mod (pe_callTy Kn.cr_int1 (by rfl) T.b_int (by decide +kernel) (pa_cons (pv 0) pa_nil)) pe_int) pe_int (nomark _)) (pss_one (ps_set (i := 2) sc__law_need.nd rfl (Or.inl rfl) pe_non)) pss_nil)
      (pss_cons (ps_set (i := 3) sc__law_need.nd rfl (Or.inl rfl) (pe_op op_mod (pe_callTy Kn.cr_int1 (by rfl) T.b_int (by decide +kernel) (pa_cons (pe_op op_fdiv (pv 0) pe_int) pa_nil)) pe_int))
      (pss_cons (ps_if (pt_cmpR op_eq (pv 3) pe_int (nomark _)) (pss_one (ps_ret (pe_tup (pa_cons pe_str (pa_cons (pe_op Kn.op_addS (Kn.pe_cl C__law_path hr (by decide) (by rfl) (pa_cons (pv 0) pa_nil)) (pe_callTy Kn.cr_strInt (by rfl) T.b_str (by decide +kernel) (pa_cons (pv 1) pa_nil))) (pa_cons (pv 2) pa_nil)))))) pss_nil)
      (pss_cons (ps_if (pt_cmpR op_eq (pv 3) pe_int (nomark _)) (pss_one (ps_ret (pe_tup (pa_cons pe_str (pa_cons (pe_op Kn.op_addS (Kn.pe_cl C__law_path hr (by decide) (by rfl) (pa_cons (pv 0) pa_nil)) (pe_callTy Kn.cr_strInt (by rfl) T.b_str (by decide +kernel) (pa_cons (pv 1) pa_nil))) (pa_cons (pe_cmpR op_eq (pe_op op_mod (pv 0) pe_int) pe_int (nomark _)) pa_nil)))))) pss_nil)
      (pss_cons (ps_if (pt_cmpR op_eq (pv 3) pe_int (nomark _)) (pss_one (ps_ret (pe_tup (pa_cons pe_str (pa_cons (pe_ix ix_list (pe_lst (pa_cons pe_str (pa_cons (Kn.pe_cl C__law_path hr (by decide) (by rfl) (pa_cons (pv 0) pa_nil)) pa_nil))) (pe_op op_mod (pe_callTy Kn.cr_int1 (by rfl) T.b_int (by decide +kernel) (pa_cons (pv 0) pa_nil)) pe_int) (fun _ _ => rfl)) (pa_cons (pe_op Kn.op_addS pe_str (pe_callTy Kn.cr_strInt (by rfl) T.b_str (by decide +kernel) (pa_cons (pv 1) pa_nil))) (pa_cons (Kn.pe_cl C_content_key hr (by decide) (by rfl) (pa_cons (Kn.pe_cl C__law_text hr (by decide) (by rfl) (pa_cons (pv 0) pa_nil)) pa_nil)) pa_nil))))))) pss_nil)
      (pss_cons (ps_if (pt_cmpR op_eq (pv 3) pe_int (nomark _)) (pss_one (ps_ret (pe_tup (pa_cons pe_str (pa_cons (pe_op Kn.op_addS pe_str (pe_callTy Kn.cr_strInt (by rfl) T.b_str (by decide +kernel) (pa_cons (pv 1) pa_nil))) (pa_cons (pv 2) pa_nil)))))) pss_nil)
      (pss_one (ps_ret (pe_tup (pa_cons pe_str (pa_cons (pe_op Kn.op_addS (Kn.pe_cl C__law_path hr (by decide) (by rfl) (pa_cons (pv 0) pa_nil)) (pe_callTy Kn.cr_strInt (by rfl) T.b_str (by decide +kernel) (pa_cons (pv 1) pa_nil))) (pa_cons (pv 2) pa_nil))))))))))))), ?_⟩
    refine q_asg (ev_c1 (a := textN (n + k)) (ea_cons (ev_c1 (a := n + k) (ea_cons (ev_is (ev_op (ev_var rfl) (ev_var rfl) rv_I0) (by congr 1)) ea_nil) fun _ _ => by omega) ea_nil) fun _ _ => text_txl (by omega)) fun H1 e1 => ?_
    refine q_ifAsg (v := snD (snN n k)) (b := decide (n % 5 = 0)) (et_eqN (m := 0) (Kn.ev_mod (n := n) (m := 5) (ev_cb (ea_cons (ev_var rfl) ea_nil) rc_int) rfl (by decide)) rfl) (fun hb => ?_) (fun hb => ?_) fun H2 e2 => ?_
    · unfold snN
      rw [if_pos (of_decide_eq_true hb)]
      exact ev_c
    · unfold snN
      rw [if_neg (of_decide_eq_false hb)]
      rfl
    · refine q_asg (v := .int ((n / 5 % 5 : Nat) : Int)) (ev_is (ev_op (ev_cb (ea_cons (ev_op (ev_var rfl) ev_c (rv_fdiv ⟨by decide, by decide⟩)) ea_nil) rc_int) ev_c (rv_mod (by decide))) (by congr 1)) fun H3 e3 => ?_
      have hq : ∀ H', Ex H3 H' → Ru H' (ndD (needN n k)) Q := fun H' e p H4 np e4 hp => q p H4 (fresh_back (((e1.trans e2).trans e3).trans e) np) ((((e1.trans e2).trans e3).trans e).trans e4) hp
      have hpl : (pathN n).length ≤ 15 := by
        have h1 := path_ok n hn
        rw [Bool.and_eq_true, Bool.and_eq_true, Bool.and_eq_true] at h1
        exact of_decide_eq_true h1.1.2
      have hkl := numL_sm (n := k) (by omega)
      have ep : ∀ {H' : Hp} {σ : L2.St}, σ[0]? = some (some (.int (n : Int))) → Ev (tCall (sp__law_path K) [] E0 (tCons (tVar 0) tNil)) σ H' (.str (S (pathN n))) := fun hσ => ev_c1 (a := n) (ea_cons (ev_var hσ) ea_nil) fun _ _ => hn
      have es : ∀ {H' : Hp} {σ : L2.St}, σ[1]? = some (some (.int (k : Int))) → Ev (tCB rStrInt (tCons (tVar 1) tNil)) σ H' (.str (S (TL.numL k))) := fun hσ => ev_strN (ev_var hσ) (log_sm (by omega))
      have eps : ∀ {H' : Hp} {σ : L2.St}, σ[0]? = some (some (.int (n : Int))) → σ[1]? = some (some (.int (k : Int))) → Ev (tOp rAddStr (tCall (sp__law_path K) [] E0 (tCons (tVar 0) tNil)) (tCB rStrInt (tCons (tVar 1) tNil))) σ H' (.str (S (pathN n ++ TL.numL k))) := fun h0 h1 => ev_op (ep h0) (es h1) (rv_addS (by omega))
      unfold needN at hq
      refine q_when (b := decide (n / 5 % 5 = 0)) (et_eqN (m := 0) (ev_var rfl) rfl) (fun hb H4 e4 => ?_) fun hb H4 e4 => ?_
      · rw [if_pos (of_decide_eq_true hb)] at hq
        exact s_retU (eu_tup (ea_cons (ev_cS (l := fileL) rfl) (ea_cons (eps rfl rfl) (ea_cons (ev_var rfl) ea_nil))) (by show 3 ≤ 100000; decide)) (hq H4 e4)
      rw [if_neg (of_decide_eq_false hb)] at hq
      refine q_when (b := decide (n / 5 % 5 = 1)) (et_eqN (m := 1) (ev_var rfl) rfl) (fun hb H5 e5 => ?_) fun hb H5 e5 => ?_
      · rw [if_pos (of_decide_eq_true hb)] at hq
        refine s_retU (eu_tup (ea_cons (ev_cS (l := hasL) rfl) (ea_cons (eps rfl rfl) (ea_cons (ev_is (ev_op (Kn.ev_mod (n := n) (m := 2) (ev_var rfl) rfl (by decide)) ev_c rv_eqI) ?_) ea_nil))) (by show 3 ≤ 100000; decide)) (hq H5 (e4.trans e5))
        congr 1
        rw [decide_eq_decide]
        omega
      rw [if_neg (of_decide_eq_false hb)] at hq
      refine q_when (b := decide (n / 5 % 5 = 2)) (et_eqN (m := 2) (ev_var rfl) rfl) (fun hb H6 e6 => ?_) fun hb H6 e6 => ?_
      · rw [if_pos (of_decide_eq_true hb)] at hq
        refine s_retU (eu_tup (ea_cons (ev_cS (l := lstL) rfl) (ea_cons (ev_ixLit (xs := strsV [[], pathN n]) (i := n % 2) (el_lst (ea_cons (ev_cS (l := []) rfl) (ea_cons (ep rfl) ea_nil)) (by show 2 ≤ 100000; decide)) (Kn.ev_mod (n := n) (m := 2) (ev_cb (ea_cons (ev_var rfl) ea_nil) rc_int) rfl (by decide)) rfl ?_) (ea_cons (ev_op (ev_cS (l := [97, 42]) rfl) (es rfl) (rv_addS (by show 2 + _ ≤ _; omega))) (ea_cons (ev_c1 (a := textN n) (ea_cons (ev_c1 (a := n) (ea_cons (ev_var rfl) ea_nil) fun _ _ => by omega) ea_nil) fun _ _ => text_txl (by omega)) ea_nil)))) (by show 4 ≤ 100000; decide)) (hq H6 ((e4.trans e5).trans e6))
        rcases Nat.mod_two_eq_zero_or_one n with z | z
        · rw [z]
          rfl
        · rw [z]
          rfl
      rw [if_neg (of_decide_eq_false hb)] at hq
      refine q_when (b := decide (n / 5 % 5 = 3)) (et_eqN (m := 3) (ev_var rfl) rfl) (fun hb H7 e7 => ?_) fun hb H7 e7 => ?_
      · rw [if_pos (of_decide_eq_true hb)] at hq
        exact s_retU (eu_tup (ea_cons (ev_cS (l := setL) rfl) (ea_cons (ev_op (ev_cS (l := [115]) rfl) (es rfl) (rv_addS (by show 1 + _ ≤ _; omega))) (ea_cons (ev_var rfl) ea_nil))) (by show 3 ≤ 100000; decide)) (hq H7 (((e4.trans e5).trans e6).trans e7))
      rw [if_neg (of_decide_eq_false hb)] at hq
      exact s_retU (eu_tup (ea_cons (ev_cS (l := lnkL) rfl) (ea_cons (eps rfl rfl) (ea_cons (ev_var rfl) ea_nil))) (by show 3 ≤ 100000; decide)) (hq H7 (((e4.trans e5).trans e6).trans e7))
theorem s_retRecV {C : Addr} {H : Hp} {σ : L2.St} {D : Ends} {tA : TA} {r : Rc} {o t u : Addr} {as : List Addr} (hA : EvA tA σ H [.ref o, .int (r.key : Int), .ref t, .ref u]) (h1 : H o = some (.tup (strsV r.outs))) (h3 : H t = some (.tup (as.map V.ref))) (h4 : Paired (fun a y => H a = some (.tup y)) as (r.needs.map ndD)) (h5 : H u = some (.tup (r.res.map fun n : Nat => V.int (n : Int)))) (q : Rr C H r D.rt) :
    tRet (tMake C (sp_Record___init__ C K) [] E0 tA) D σ H :=
  hA H (Ex.refl H) _ fun H4 e4 => by
    intro p dx np nx ne
    refine ⟨p, dx, o, t, u, r.key, rfl, upd_same, fun H5 h6 k6 => ⟨rfl, ?_⟩⟩
    have e45 : Ex H4 H5 := fun b x hb => k6 b x (by rw [upd_ne (ne_of_none hb np), upd_ne (ne_of_none hb nx)]; exact hb) (ne_of_none hb np)
    have e5 := e4.trans e45
    exact q p H5 (fresh_back e4 np) e5 ⟨dx, o, t, u, as, h6, e5 _ _ h1, e5 _ _ h3, Paired.mapP h4 fun _ _ z => e5 _ _ z, e5 _ _ h5⟩
def sp__law_record (C : Addr) (_ : PySem.W.Frag) : Sp := fun vs H Q _ => ∃ (c : Int) (j : Nat), vs = [.int c, .int (j : Int)] ∧ j < 60 ∧ ∀ ns : List Nat, (∀ i, ns.getD i 0 < 1000) → Rr C H (recN ns j) Q
theorem ok__law_record {f : Addr} {C_Store C_Record : Addr} {fd : FuncData} (F : Fun K "_law_record" "_law_record" s__law_record f fd) (T : Tx mg) (G : Gx K mg) (TC_Store : Tc_Store K C_Store) (TC_Record : Tc_Record K C_Record) (C__law_numbers : Kn.Cl P w K mg base 1 "_law_numbers" (sp__law_numbers K)) (C__law_need : Kn.Cl P w K mg base 2 "_law_need" (sp__law_need K)) (C__law_text : Kn.Cl P w K mg base 1 "_law_text" (sp__law_text K)) (C_content_key : Kn.Cl P w K mg base 1 "content_key" (sp_content_key K)) (M_Record : Kn.Mkr P w K mg base 1 "Record" C_Record (sp_Record___init__ C_Record K)) : FnOk P w K mg base CX0 3 f fd ["cell", "job"] (sp__law_record C_Record K) := by
  refine F.ok sc__law_record (fun vs H Q E h => ?_) (fun cdv A outer s H vs Q E hr h => ?_)
  · obtain ⟨n, k, rfl, _⟩ := h
    rfl
  · obtain ⟨c, j, rfl, hj, q⟩ := h
    refine ⟨_, (pss_cons (ps_set (i := 2) sc__law_record.nd rfl (Or.inr rfl) (Kn.pe_cl C__law_numbers hr (by decide) (by rfl) (pa_cons (pv 0) (pa_cons pe_int pa_nil))))
      (pss_cons (ps_set (i := 3) sc__law_record.nd rfl (Or.inl rfl) (pe_callTy Kn.cr_tupS (by rfl) T.b_tuple (by decide +kernel) (pa_cons (pe_lc (own := [("k", 6)]) rfl sc__law_record.nd (pi_range1 rfl T.b_range (pa_cons (pe_op op_add pe_int (pe_op op_mod (pe_callTy Kn.cr_int1 (by rfl) T.b_int (by decide +kernel) (pa_cons (pv 1) pa_nil)) pe_int)) pa_nil)) (blkOk_by (own := [("k", 6)]) (N := N__law_record) (sc := defScope s__law_record) (by decide +kernel)) (fun _ _ _ _ _ => pg_name (i := 6) sc__law_record.nd rfl (Or.inl rfl)) (fun _ _ _ _ _ => pts_nil) (fun _ _ _ _ _ => (pe_op Kn.op_addS (pe_op Kn.op_addS (pe_op Kn.op_addS pe_str (pe_callTy Kn.cr_strInt (by rfl) T.b_str (by decide +kernel) (pa_cons (pv 1) pa_nil))) pe_str) (pe_callTy Kn.cr_strInt (by rfl) T.b_str (by decide +kernel) (pa_cons (pv 6) pa_nil))))) pa_nil)))
      (pss_cons (ps_set (i := 4) sc__law_record.nd rfl (Or.inl rfl) (pe_callTy Kn.cr_tupS (by rfl) T.b_tuple (by decide +kernel) (pa_cons (pe_lc (own := [("k", 6)]) rfl sc__law_record.nd (pi_range1 rfl T.b_range (pa_cons (pe_op op_mod (pe_callTy Kn.cr_int1 (by rfl) T.b_int (by decide +kernel) (pa_cons (pe_ix ix_list (pv 2) pe_int (fun _ _ => rfl)) pa_nil)) pe_int) pa_nil)) (blkOk_by (own := [("k", 6)]) (N := N__law_record) (sc := defScope s__law_record) (by decide +kernel)) (fun _ _ _ _ _ => pg_name (i := 6) sc__law_record.nd rfl (Or.inl rfl)) (fun _ _ _ _ _ => pts_nil) (fun _ _ _ _ _ => (Kn.pe_cl C__law_need hr (by decide) (by rfl) (pa_cons (pe_callTy Kn.cr_int1 (by rfl) T.b_int (by decide +kernel) (pa_cons (pe_ix (Kn.ix_listK (K := K) rfl) (pv 2) (pe_op op_add pe_int (pv 6)) (fun _ _ => rfl)) pa_nil)) (pa_cons (pv 6) pa_nil))))) pa_nil)))
      (pss_cons (ps_set (i := 5) sc__law_record.nd rfl (Or.inl rfl) (pe_callTy Kn.cr_tupS (by rfl) T.b_tuple (by decide +kernel) (pa_cons (pe_lc (own := [("k", 6)]) rfl sc__law_record.nd (pi_range1 rfl T.b_range (pa_cons (pe_callB Kn.cr_lenSeq (by rfl) T.b_len PySem.boot_len (pa_cons (pv 3) pa_nil)) pa_nil)) (blkOk_by (own := [("k", 6)]) (N := N__law_record) (sc := defScope s__law_record) (by decide +kernel)) (fun _ _ _ _ _ => pg_name (i := 6) sc__law_record.nd rfl (Or.inl rfl)) (fun _ _ _ _ _ => pts_nil) (fun _ _ _ _ _ => (Kn.pe_cl C_content_key hr (by decide) (by rfl) (pa_cons (Kn.pe_cl C__law_text hr (by decide) (by rfl) (pa_cons (pe_ix (Kn.ix_listK (K := K) rfl) (pv 2) (pe_op op_add pe_int (pv 6)) (fun _ _ => rfl)) pa_nil)) pa_nil)))) pa_nil)))
      (pss_one (ps_ret (Kn.pe_mkr M_Record hr (by decide) (by rfl) (pa_cons (pv 3) (pa_cons (Kn.pe_cl C_content_key hr (by decide) (by rfl) (pa_cons (pe_op Kn.op_addS pe_str (pe_callTy Kn.cr_strInt (by rfl) T.b_str (by decide +kernel) (pa_cons (pe_op op_mod (pe_callTy Kn.cr_int1 (by rfl) T.b_int (by decide +kernel) (pa_cons (pe_ix ix_list (pv 2) pe_int (fun _ _ => rfl)) pa_nil)) pe_int) pa_nil))) pa_nil)) (pa_cons (pv 4) (pa_cons (pv 5) pa_nil))))))))))), ?_⟩
    refine q_asgC (ea_cons (ev_var rfl) (ea_cons (ev_c (v := .int ((12 : Nat) : Int))) ea_nil)) fun H1 e1 => ?_
    refine ⟨_, 12, rfl, by decide, fun ns hl hns pr H2 npr e2 hpr => ?_⟩
    have hget : ∀ i, ns.getD i 0 < 1000 := fun i => by
      rw [List.getD_eq_getElem?_getD]
      cases h : ns[i]? with
      | none => show 0 < 1000; decide
      | some x => exact hns x (List.mem_of_getElem? h)
    have q' := q ns hget
    have hjl := numL_sm (n := j) (by omega)
    refine q_asgU (xs := strsV ((List.range (1 + j % 3)).map (outN j))) ?_ fun o H3 no e3 ho => ?_
    · have z := el_lcR (σ := [some (.int c), some (.int (j : Int)), some (.ref pr), none, none, none, none]) (H := H2) (n := ((1 + j % 3 : Nat) : Int)) (f := fun k => .str (S (outN j k))) (j := 6) (vs := [6])
        (ta := tCons (tOp (rI0 fun i j => .int (i + j)) (tC (.int 1)) (tOp (rI (fun _ j => 0 < j) fun i j => .int (i % j)) (tCB rInt1 (tCons (tVar 1) tNil)) (tC (.int 3)))) tNil)
        (te := tOp rAddStr (tOp rAddStr (tOp rAddStr (tC (.str (Str.ofString "out"))) (tCB rStrInt (tCons (tVar 1) tNil))) (tC (.str (Str.ofString "x")))) (tCB rStrInt (tCons (tVar 6) tNil)))
        (ea_cons (ev_is (ev_op ev_c (Kn.ev_mod (n := j) (m := 3) (ev_cb (ea_cons (ev_var rfl) ea_nil) rc_int) rfl (by decide)) rv_I0) (by congr 1)) ea_nil) (by omega) (fun _ => rfl) fun k H3 e3 hk => ?_
      · rw [Int.toNat_natCast] at z
        rw [show strsV ((List.range (1 + j % 3)).map (outN j)) = (List.range (1 + j % 3)).map fun k => V.str (S (outN j k)) from List.map_map ..]
        exact eu_tupL z
      · have hkl := numL_sm (n := k) (by omega)
        unfold outN
        exact ev_op (ev_op (ev_op (ev_cS (l := [111, 117, 116]) rfl) (ev_strN (ev_var rfl) (log_sm (by omega))) (rv_addS (by show 3 + _ ≤ _; omega))) (ev_cS (l := [120]) rfl) (rv_addS (by rw [List.length_append]; show 3 + _ + 1 ≤ _; omega))) (ev_strN (ev_var rfl) (log_sm (by omega))) (rv_addS (by rw [List.length_append, List.length_append]; show 3 + _ + 1 + _ ≤ _; omega))
    have hpr3 := e3 _ _ hpr
    refine q_asgN (ys := (recN ns j).needs.map ndD) ?_ fun t as H4 nt e4 ht has => ?_
    · have z := ns_lcR (σ := [some (.int c), some (.int (j : Int)), some (.ref pr), some (.ref o), none, none, none]) (H := H3) (n := ((ns.getD 0 0 % 5 : Nat) : Int)) (j := 6) (vs := [6]) (tA := tCons (tOp (rI (fun _ j => 0 < j) fun i j => .int (i % j)) (tCB rInt1 (tCons (tOp (rIxL K) (tVar 2) (tC (.int 0))) tNil)) (tC (.int 5))) tNil)
        (te := tCall (sp__law_need K) [] E0 (tCons (tCB rInt1 (tCons (tOp (rIxL K) (tVar 2) (tOp (rI0 fun i j => .int (i + j)) (tC (.int 1)) (tVar 6))) tNil)) (tCons (tVar 6) tNil))) (fun k => ndD (needN (ns.getD (1 + k) 0) k))
        (ea_cons (Kn.ev_mod (n := ns.getD 0 0) (m := 5) (ev_cb (ea_cons (ev_op (ev_var rfl) ev_c (rv_ixL (sq_of hpr3) (num_at (i := 0) rfl (by omega)))) ea_nil) rc_int) rfl (by decide)) ea_nil) (by omega) (fun _ => rfl) fun k H5 e5 hk => ?_
      · refine nt_tup (ns_map z ?_)
        rw [Int.toNat_natCast]
        show _ = ((List.range (ns.getD 0 0 % 5)).map fun k => needN (ns.getD (1 + k) 0) k).map ndD
        rw [List.map_map]
        rfl
      · exact eu_call (ea_cons (ev_cb (ea_cons (ev_op (ev_var rfl) (ev_op ev_c (ev_var rfl) rv_I0) (rv_ixL (sq_of (e5 _ _ hpr3)) (num_at (i := 1 + k) (by omega) (by omega)))) ea_nil) rc_int) (ea_cons (ev_var rfl) ea_nil)) fun H6 e6 Q q E => ⟨ns.getD (1 + k) 0, k, rfl, ⟨hget _, by omega⟩, q⟩
    have hpr4 := e4 _ _ hpr3
    refine q_asgU (xs := (recN ns j).res.map fun n : Nat => V.int (n : Int)) ?_ fun u H5 nu e5 hu => ?_
    · have z := el_lcR (σ := [some (.int c), some (.int (j : Int)), some (.ref pr), some (.ref o), some (.ref t), none, none]) (H := H4) (n := ((1 + j % 3 : Nat) : Int)) (f := fun k => .int ((key (textN (ns.getD (7 + k) 0)) : Nat) : Int)) (j := 6) (vs := [6])
        (ta := tCons (tCB (rLenS K) (tCons (tVar 3) tNil)) tNil)
        (te := tCall (sp_content_key K) [] E0 (tCons (tCall (sp__law_text K) [] E0 (tCons (tOp (rIxL K) (tVar 2) (tOp (rI0 fun i j => .int (i + j)) (tC (.int 7)) (tVar 6))) tNil)) tNil))
        (ea_cons (ev_is (ev_lenT (ev_var rfl) (e4 _ _ ho)) (by rw [strsV_len, List.length_map, List.length_range])) ea_nil) (by omega) (fun _ => rfl) fun k H6 e6 hk => ?_
      · rw [Int.toNat_natCast] at z
        rw [show ((recN ns j).res.map fun n : Nat => V.int (n : Int)) = (List.range (1 + j % 3)).map fun k => V.int ((key (textN (ns.getD (7 + k) 0)) : Nat) : Int) from List.map_map ..]
        exact eu_tupL z
      · exact ev_c1 (a := textN (ns.getD (7 + k) 0)) (ea_cons (ev_c1 (a := ns.getD (7 + k) 0) (ea_cons (ev_op (ev_var rfl) (ev_op ev_c (ev_var rfl) rv_I0) (rv_ixL (sq_of (e6 _ _ hpr4)) (num_at (i := 7 + k) (by omega) (by omega)))) ea_nil) fun _ _ => by have := hget (7 + k); omega) ea_nil) fun _ _ => text_txl (by have := hget (7 + k); omega)
    have e25 := (e3.trans e4).trans e5
    have hr2 := numL_sm (n := ns.getD 11 0 % 2) (by omega)
    refine s_retRecV (r := recN ns j) (o := o) (t := t) (u := u) (as := as) (ea_cons (ev_var rfl) (ea_cons (ev_c1 (a := ruleN (ns.getD 11 0)) (ea_cons (ev_op (ev_cS (l := [114, 117, 108, 101, 32]) rfl) (ev_strN (Kn.ev_mod (n := ns.getD 11 0) (m := 2) (ev_cb (ea_cons (ev_op (ev_var rfl) ev_c (rv_ixL (sq_of (e5 _ _ hpr4)) (num_at (i := 11) rfl (by omega)))) ea_nil) rc_int) rfl (by decide)) (log_sm (by omega))) (rv_addS (by show 5 + _ ≤ _; omega))) ea_nil) fun _ _ => ?_) (ea_cons (ev_var rfl) (ea_cons (ev_var rfl) ea_nil)))) ((e4.trans e5) _ _ ho) (e5 _ _ ht) (Paired.mapP has fun _ _ z => e5 _ _ z) hu fun p H6 np e6 h6 => q' p H6 (fresh_back ((e1.trans e2).trans e25) np) (((e1.trans e2).trans e25).trans e6) h6
    refine ⟨?_, fun c hc => ?_⟩
    · unfold ruleN
      rw [List.length_append]
      show 5 + _ ≤ 2000
      omega
    · unfold ruleN at hc
      rcases List.mem_append.mp hc with z | z
      · have h0 : ∀ c ∈ ([114, 117, 108, 101, 32] : List Nat), c < 128 := by decide
        exact h0 c z
      · exact num_128 _ c z
end

--SPLIT
section
variable {P : Program} {w : World} {K : PySem.W.Frag} {mg : Str → Option Value} {base : Heap}
theorem okH_question {f : Addr} {C_Store C_Record : Addr} {fd : FuncData} (F : Fun K "question" "question" s_question f fd) (T : Tx mg) (G : Gx K mg) (TC_Store : Tc_Store K C_Store) (TC_Record : Tc_Record K C_Record)  : L2H.FnH P w K mg base CX0 1 f fd ["need"] (sp_question K) := by
  refine Kn.okH F sc_question (fun vs H Q E h => ?_) (fun cdv A outer s H vs Q E p0 hot0 hr h => ?_)
  · obtain ⟨a, xs, rfl, _⟩ := h
    rfl
  · obtain ⟨a, xs, rfl, ha, hne, q⟩ := h
    refine ⟨_, (pss_one (ps_ret (pe_slice sl_tup (pv 0) po_none (po_some (pe_un un_neg pe_int))))), ?_⟩
    obtain ⟨e1, e2⟩ := cut_init xs hne
    have z := eu_sl (K := K) (σ := [some (.ref a)]) (te := tVar 0) (ev_var rfl) eo_none (eo_some (ev_un ev_c ru_neg)) ha e2
    rw [e1] at z
    exact s_retU z q
theorem okH__format_seen {f : Addr} {C_Store C_Record : Addr} {fd : FuncData} (F : Fun K "_format_seen" "_format_seen" s__format_seen f fd) (T : Tx mg) (G : Gx K mg) (TC_Store : Tc_Store K C_Store) (TC_Record : Tc_Record K C_Record)  : L2H.FnH P w K mg base CX0 1 f fd ["seen"] (sp__format_seen K) := by
  refine Kn.okH F sc__format_seen (fun vs H Q E h => ?_) (fun cdv A outer s H vs Q E p0 hot0 hr h => ?_)
  · obtain ⟨n, rfl, _⟩ := h
    rfl
  · obtain ⟨n, rfl, g, q⟩ := h
    refine ⟨_, (pss_cons (ps_if (pt_cmpR op_isN1 (pv 0) pe_non (nomark _)) (pss_one (ps_ret (C8.pe_gc (by rfl) T.c_NOTHING))) pss_nil)
      (pss_cons (ps_if (pt_cmpR Kn.op_isB (pv 0) pe_bl (nomark _)) (pss_one (ps_ret (C8.pe_gc (by rfl) T.c_YES))) pss_nil)
      (pss_one (ps_ret (pe_ifExp (pt_cmpR Kn.op_isB (pv 0) pe_bl (nomark _)) (C8.pe_gc (by rfl) T.c_NO) (pe_joined1 (pe_fmt (pv 0)))))))), ?_⟩
    have hsn : snV (snD n) = true := by cases n <;> rfl
    refine q_when (b := decide (snD n = .non)) (et_isN (ev_var rfl)) (fun hb H1 e1 => ?_) fun hb H1 e1 => ?_
    · have e : n = .no := by
        cases n with
        | no => rfl
        | b x => exact absurd (of_decide_eq_true hb) (by intro z; cases z)
        | k x => exact absurd (of_decide_eq_true hb) (by intro z; cases z)
      subst e
      exact s_ret (ev_cS (l := [45]) rfl) fun H2 e2 => q H2 (e1.trans e2)
    · refine q_when (b := decide (snD n = .bl true)) (et_test (ev_op (ev_var rfl) ev_c (rv_isB hsn))) (fun hb H2 e2 => ?_) fun hb2 H2 e2 => ?_
      · have e : n = .b true := by
          cases n with
          | no => exact absurd (of_decide_eq_true hb) (by intro z; cases z)
          | b x => have := of_decide_eq_true hb; cases this; rfl
          | k x => exact absurd (of_decide_eq_true hb) (by intro z; cases z)
        subst e
        exact s_ret (ev_cS (l := yesL) rfl) fun H3 e3 => q H3 ((e1.trans e2).trans e3)
      · refine s_ret (ev_if (b := decide (snD n = .bl false)) (et_test (ev_op (ev_var rfl) ev_c (rv_isB hsn))) (fun hb => ?_) fun hb3 => ?_) fun H3 e3 => q H3 ((e1.trans e2).trans e3)
        · have e : n = .b false := by
            cases n with
            | no => exact absurd (of_decide_eq_true hb) (by intro z; cases z)
            | b x => have := of_decide_eq_true hb; cases this; rfl
            | k x => exact absurd (of_decide_eq_true hb) (by intro z; cases z)
          subst e
          exact ev_cS (l := nooL) rfl
        · cases n with
          | no => exact absurd rfl (of_decide_eq_false hb)
          | b x =>
            cases x with
            | true => exact absurd rfl (of_decide_eq_false hb2)
            | false => exact absurd rfl (of_decide_eq_false hb3)
          | k x => exact ev_fmtN (ev_var rfl) (GK.log g)
theorem okH__format_need {f : Addr} {C_Store C_Record : Addr} {fd : FuncData} (F : Fun K "_format_need" "_format_need" s__format_need f fd) (T : Tx mg) (G : Gx K mg) (TC_Store : Tc_Store K C_Store) (TC_Record : Tc_Record K C_Record) (H_question : Kn.ClH P w K mg base 1 "question" (sp_question K)) (H__format_seen : Kn.ClH P w K mg base 1 "_format_seen" (sp__format_seen K)) : L2H.FnH P w K mg base CX0 2 f fd ["need"] (sp__format_need K) := by
  refine Kn.okH F sc__format_need (fun vs H Q E h => ?_) (fun cdv A outer s H vs Q E p0 hot0 hr h => ?_)
  · obtain ⟨a, d, rfl, _⟩ := h
    rfl
  · obtain ⟨a, d, rfl, ⟨ha, g, hz⟩, q⟩ := h
    refine ⟨_, (pss_one (ps_ret (Kn.pe_joinN (pe_join pe_str (pe_op op_cat (pe_callTy Kn.cr_listS (by rfl) T.b_list (by decide +kernel) (pa_cons (Kn.pe_clH H_question hr (by decide) (Kn.hot_top hot0) (by rfl) (pa_cons (pv 0) pa_nil)) pa_nil)) (pe_lst (pa_cons (Kn.pe_clH H__format_seen hr (by decide) (Kn.hot_top hot0) (by rfl) (pa_cons (pe_ix ix_tup (pv 0) (pe_un un_neg pe_int) (fun _ _ => rfl)) pa_nil)) pa_nil))))))), ?_⟩
    refine s_ret (ev_join (s := [58]) (ys := d.ws ++ [fmtSn d.sn]) (ev_cS (l := [58]) rfl) ?_ ?_) q
    · show EvL _ _ _ (strsV (d.ws ++ [fmtSn d.sn]))
      rw [← strs_snoc]
      refine el_cat (el_listU (eu_call (xs := strsV d.ws) (ea_cons (ev_var rfl) ea_nil) fun H1 e1 Q q E => ⟨a, ndD d, rfl, e1 _ _ ha, by unfold ndD; simp, by unfold ndD; rw [drop_snoc]; exact q⟩)) (el_lst (ea_cons (ev_c1 (a := d.sn) (ea_cons (ev_op (ev_var rfl) (ev_un ev_c ru_neg) (rv_ixT (st_of ha) (at_last ?_))) ea_nil) fun _ _ => g) ea_nil) (by show 1 ≤ 100000; decide)) ?_
      · unfold ndD
        rw [List.length_append]
        show (strsV d.ws ++ [snD d.sn])[(strsV d.ws).length + 1 - 1]? = _
        rw [Nat.add_sub_cancel, List.getElem?_append_right (Nat.le_refl _), Nat.sub_self]
        rfl
      · have := hz.1
        unfold strsV
        rw [List.length_map]
        show d.ws.length + 1 ≤ 100000
        omega
    · have h1 := hz.1
      have h2 := hz.2
      rw [List.length_append]
      show _ + (d.ws.length + 1) * 1 ≤ _
      omega
theorem okH_format_record {f : Addr} {C_Store C_Record : Addr} {fd : FuncData} (F : Fun K "format_record" "format_record" s_format_record f fd) (T : Tx mg) (G : Gx K mg) (TC_Store : Tc_Store K C_Store) (TC_Record : Tc_Record K C_Record) (H__format_need : Kn.ClH P w K mg base 2 "_format_need" (sp__format_need K)) : L2H.FnH P w K mg base CX0 3 f fd ["record"] (sp_format_record C_Record K) := by
  refine Kn.okH F sc_format_record (fun vs H Q E h => ?_) (fun cdv A outer s H vs Q E p0 hot0 hr h => ?_)
  · obtain ⟨a, d, rfl, _⟩ := h
    rfl
  · obtain ⟨p, r, rfl, ⟨ho, f⟩, q⟩ := h
    refine ⟨_, (pss_cons (Kn.ps_setLcH (i := 1) (own := [("need", 4)]) (Kn.hot_top hot0) sc_format_record.nd rfl rfl (sw_true rfl rfl rfl (by decide +kernel)) (Kn.pi_tupH (pe_fld (pv 0) rfl)) (blkOk_by (own := [("need", 4)]) (N := N_format_record) (sc := defScope s_format_record) (by decide +kernel)) (fun _ _ _ _ _ _ => pg_name (i := 4) sc_format_record.nd rfl (Or.inl rfl)) (fun _ _ _ _ _ _ hb => (Kn.pe_clH H__format_need hr (by decide) (Kn.hot_blk hb) (by rfl) (pa_cons (pv 4) pa_nil))))
      (pss_cons (Kn.ps_setLcH (i := 2) (own := [("key", 5)]) (Kn.hot_top hot0) sc_format_record.nd rfl rfl (sw_true rfl rfl rfl (by decide +kernel)) (Kn.pi_tupH (pe_fld (pv 0) rfl)) (blkOk_by (own := [("key", 5)]) (N := N_format_record) (sc := defScope s_format_record) (by decide +kernel)) (fun _ _ _ _ _ _ => pg_name (i := 5) sc_format_record.nd rfl (Or.inl rfl)) (fun _ _ _ _ _ _ hb => (pe_joined1 (pe_fmt (pv 5)))))
      (pss_cons (ps_set (i := 3) sc_format_record.nd rfl (Or.inl rfl) (pe_lst (pa_cons (Kn.pe_joinN (pe_join pe_str (pe_fld (pv 0) rfl))) (pa_cons (pe_joined1 (pe_fmt (pe_fld (pv 0) rfl))) (pa_cons (Kn.pe_joinN (pe_join pe_str (pv 1))) (pa_cons (Kn.pe_joinN (pe_join pe_str (pv 2))) pa_nil))))))
      (pss_cons (ps_if (pt_cmpR (op_eqD (Kn.roomH_units hr)) (pv 1) (pe_lst pa_nil) (nomark _)) (pss_one (ps_asg (C8.pe_gc (by rfl) T.c_NOTHING) (pg_sub (pv 3) pe_int set_list))) pss_nil)
      (pss_one (ps_ret (Kn.pe_joinN (pe_join pe_str (pv 3))))))))), ?_⟩
    obtain ⟨dx, o, t, u, as, h1, h2, h3, h4, h5⟩ := ho.ex
    have hal : as.length = r.needs.length := by rw [Paired.length h4, List.length_map]
    have n60 := f.g.n60
    refine q_asgL (xs := strsV (r.needs.map fmtNd)) ?_ fun a H1 na e1 ha => ?_
    · have z := el_lcT (K := K) (σ := [some (.ref p), none, none, none, none, none]) (H := H) (a := t) (xs := as.map V.ref) (tl := tFld K (tVar 0) "needs") (te := tCall (sp__format_need K) [] E0 (tCons (tVar 4) tNil)) (t := tYes) (j := 4) (vs := [4]) (fun _ => true) (fun i => ((r.needs.map fmtNd)[i]?.map fun l => V.str (S l)).getD .non)
        (ev_fld (ev_var rfl) h1 TC_Record.cl TC_Record.na_needs (fr_n o r.key t u)) h3 (by rw [List.length_map]; omega) (fun _ => rfl) (fun _ _ _ _ _ => et_yes) (fun i x H1 e1 hi _ => ?_)
      · rw [List.length_map, hal, ← List.length_map (f := fmtNd) (as := r.needs), given_all] at z
        exact z
      · rw [List.getElem?_map] at hi
        obtain ⟨a, ha, rfl⟩ := Option.map_eq_some_iff.mp hi
        obtain ⟨y, hy, hay⟩ := pair_get h4 ha
        rw [List.getElem?_map] at hy
        obtain ⟨d, hd, rfl⟩ := Option.map_eq_some_iff.mp hy
        show Ev _ _ _ (((r.needs.map fmtNd)[i]?.map fun l => V.str (S l)).getD .non)
        rw [List.getElem?_map, hd]
        have hm := List.mem_of_getElem? hd
        exact ev_c2 (a := a) (b := d) (ea_cons (ev_var rfl) ea_nil) fun H2 e2 => ⟨e2 _ _ (e1 _ _ hay), (f.g.nd d hm).sn, (f.need hm).2.2⟩
    · refine q_asgL (xs := strsV (r.res.map TL.numL)) ?_ fun b H2 nb e2 hb => ?_
      · rw [show strsV (r.res.map TL.numL) = r.res.map fun n => V.str (S (TL.numL n)) from List.map_map ..]
        exact el_lcTM (g := fun n : Nat => V.int (n : Int)) (ev_fld (ev_var rfl) (e1 _ _ h1) TC_Record.cl TC_Record.na_results (fr_r o r.key t u)) (e1 _ _ h5) (by rw [f.g.rl]; have := f.g.o3; omega) (fun _ => rfl) fun n hn H2 e2 => ev_fmtN (ev_var rfl) (f.g.rk n hn).log
      · have e12 := e1.trans e2
        have hfo := f.out.1
        have hfn := f.nds
        have hfr := f.rs
        have hw4 : (strsV [TL.joinL [44] r.outs, TL.numL r.key, TL.joinL [59] (r.needs.map fmtNd), TL.joinL [44] (r.res.map TL.numL)]).length ≤ 100000 := by show 4 ≤ 100000; decide
        refine q_asgL (xs := strsV [TL.joinL [44] r.outs, TL.numL r.key, TL.joinL [59] (r.needs.map fmtNd), TL.joinL [44] (r.res.map TL.numL)]) (el_lst (ea_cons (ev_joinT (ev_cS (l := [44]) rfl) (ev_fld (ev_var rfl) (e12 _ _ h1) TC_Record.cl TC_Record.na_outputs (fr_o o r.key t u)) (e12 _ _ h2) (by show _ + _ * 1 ≤ _; omega)) (ea_cons (ev_fmtN (ev_fld (ev_var rfl) (e12 _ _ h1) TC_Record.cl TC_Record.na_rule_key (fr_k o r.key t u)) f.g.kk.log) (ea_cons (ev_joinV (ev_cS (l := [59]) rfl) (ev_var rfl) (sq_of (e2 _ _ ha)) (by rw [List.length_map]; show _ + _ * 1 ≤ _; omega)) (ea_cons (ev_joinV (ev_cS (l := [44]) rfl) (ev_var rfl) (sq_of hb) (by rw [List.length_map]; show _ + _ * 1 ≤ _; omega)) ea_nil)))) hw4) fun c H3 nc e3 hc => ?_
        have e13 := e12.trans e3
        have hsh : ∀ x ∈ r.needs.map fmtNd, ∀ c ∈ x, c < 128 := fun x hx => by
          obtain ⟨d, hd, rfl⟩ := List.mem_map.mp hx
          exact (f.need hd).2.1
        have hwd := fun w hw => f.word (w := w) hw
        have key : ∀ (H' : Hp) (ws : List (List Nat)), Ex H H' → H' c = some (.lst (strsV ws)) → ws = Kn.Rp.words r → Ev (tM1 (rJoin K) (tC (.str (Str.ofString " "))) (tVar 3)) [some (.ref p), some (.ref a), some (.ref b), some (.ref c), none, none] H' (.str (S (fmtRc r))) := fun H' ws e hc' hws => by
          subst hws
          refine ev_joinV (ev_cS (l := [32]) rfl) (ev_var rfl) (sq_of hc') ?_
          have h1 := join_len 32 (Kn.Rp.words r) (by unfold Kn.Rp.words; simp)
          have h3 : (Kn.Rp.words r).length = 4 := rfl
          have h4 := f.x.1
          have h5 : (fmtRc r).length = (TL.joinL [32] (Kn.Rp.words r)).length := rfl
          show _ + _ * 1 ≤ _
          omega
        have hev : Ev (tOp (rEqD K) (tVar 1) (tLst tNil)) [some (.ref p), some (.ref a), some (.ref b), some (.ref c), none, none] H3 (.bl (PyData.eqv (.list ((r.needs.map fmtNd).map fun l => .str (S l))) (.list []))) :=
          ev_eqD (evd_of (ev_var rfl) (.lst (e3 _ _ (e2 _ _ ha)) (dta_strs _))) (evd_lst eda_nil (by show 0 ≤ 100000; decide)) (shaped_strs hsh) (shaped_strs (ws := []) (fun _ h => nomatch h))
        by_cases h0 : r.needs.length = 0
        · have hn0 := List.length_eq_zero_iff.mp h0
          refine q_when (b := true) (et_is (et_test hev) (by rw [hn0]; rfl)) (fun _ H4 e4 => ?_) (fun z => nomatch z)
          refine s_setL (j := 2) (e4 _ _ hc) (ev_cS (l := [45]) rfl) (ev_var rfl) ev_c (by show 2 < 4; decide) fun H5 e5 => ?_
          refine s_ret (key _ [TL.joinL [44] r.outs, TL.numL r.key, [45], TL.joinL [44] (r.res.map TL.numL)] (Ex.mut ((e13.trans e4).trans e5) (fresh_back e12 nc)) upd_same ?_) fun H6 e6 => q H6 ((Ex.mut ((e13.trans e4).trans e5) (fresh_back e12 nc)).trans e6)
          unfold Kn.Rp.words fmtNds
          rw [if_pos h0]
        · refine q_when (b := false) (et_is (et_test hev) (by
            cases hn : r.needs with
            | nil => rw [hn] at h0; exact absurd rfl h0
            | cons d t => rfl)) (fun z => nomatch z) fun _ H4 e4 => ?_
          refine s_ret (key _ _ (e13.trans e4) (e4 _ _ hc) ?_) fun H6 e6 => q H6 ((e13.trans e4).trans e6)
          unfold Kn.Rp.words fmtNds
          rw [if_neg h0]
end
/-! ### equal records -/
theorem rc_mt {X : Cx} {k : Nat} {C : Addr} {R : Addr → Addr → Hp → Prop} (c : Kn.Mt X.prog X.w X.K X.mg X.base k C "__eq__" (spEq R)) : RcG X k (DIns C R) := by
  obtain ⟨f, fd, ps, hc, hm, F, b⟩ := c.ex
  exact rcG_ins F hm.1 hm.2 b pass0
def ReqR (C : Addr) : Addr → Addr → Hp → Prop := fun a b H => ∃ r, RcO C H a r ∧ RcO C H b r ∧ Fn r
def sp_Record___eq__ (C : Addr) (_ : PySem.W.Frag) : Sp := spEq (ReqR C)
def snP : Sn → PyData
  | .no => .none
  | .b x => .bool x
  | .k n => .int n
def ndP (d : Nd) : PyData := .tuple ((d.ws.map fun l => PyData.str (S l)) ++ [snP d.sn])
theorem dt_sn {H : Hp} (s : Sn) : Dt H (snD s) (snP s) := by
  cases s with
  | no => exact .non
  | b x => exact .bl x
  | k n => exact .int _
theorem dt_nd {H : Hp} {a : Addr} {d : Nd} (h : H a = some (.tup (ndD d))) : Dt H (.ref a) (ndP d) := .tup h ((dta_strs d.ws).snoc (dt_sn d.sn))
theorem dta_nds {H : Hp} : ∀ {as : List Addr} {ds : List Nd}, Paired (fun a y => H a = some (.tup y)) as (ds.map ndD) → DtA H (as.map V.ref) (ds.map ndP)
  | [], [], .nil => .nil
  | _ :: _, _ :: _, .cons h r => .cons (dt_nd h) (dta_nds r)
theorem canL_app : ∀ {xs ys : List PyData}, PyData.canLayAll0 xs = true → PyData.canLayAll0 ys = true → PyData.canLayAll0 (xs ++ ys) = true
  | [], _, _, h => h
  | x :: r, ys, h1, h2 => by
    have e : PyData.canLayAll0 (x :: r) = (x.canLay0 && PyData.canLayAll0 r) := by simp [PyData.canLayAll0]
    rw [e, Bool.and_eq_true] at h1
    exact can_cons h1.1 (canL_app h1.2 h2)
theorem depth_app : ∀ (xs ys : List PyData), PyData.depthAll (xs ++ ys) = max (PyData.depthAll xs) (PyData.depthAll ys)
  | [], ys => by
    show _ = max 0 _
    rw [Nat.zero_max]
    rfl
  | x :: r, ys => by
    show max x.depth (PyData.depthAll (r ++ ys)) = max (max x.depth (PyData.depthAll r)) _
    rw [depth_app r ys, Nat.max_assoc]
theorem can_nd {d : Nd} (h : ∀ x ∈ d.ws, ∀ c ∈ x, c < 128) : (ndP d).canLay0 = true ∧ (ndP d).depth = 1 := by
  have e : PyData.canLayAll0 [snP d.sn] = true ∧ PyData.depthAll [snP d.sn] = 0 := by
    cases d.sn <;> exact ⟨by simp [snP, PyData.canLayAll0, PyData.canLay0], rfl⟩
  refine ⟨?_, ?_⟩
  · show PyData.canLay0 (.tuple _) = true
    have z := canL_app (canL_strs h) e.1
    simp only [PyData.canLay0]
    exact z
  · show PyData.depthAll _ + 1 = 1
    rw [depth_app, depth_strs, e.2]
    rfl
theorem shaped_nds {ds : List Nd} (h : ∀ d ∈ ds, ∀ x ∈ d.ws, ∀ c ∈ x, c < 128) : SeqAt.shaped (.tuple (ds.map ndP)) = true := by
  have z : PyData.canLayAll0 (ds.map ndP) = true ∧ PyData.depthAll (ds.map ndP) ≤ 1 := by
    induction ds with
    | nil => exact ⟨rfl, Nat.zero_le _⟩
    | cons d r ih =>
      have hd := can_nd (h d List.mem_cons_self)
      have hr := ih fun x hx => h x (List.mem_cons_of_mem _ hx)
      refine ⟨can_cons hd.1 hr.1, ?_⟩
      show max (ndP d).depth (PyData.depthAll (r.map ndP)) ≤ 1
      rw [hd.2]
      omega
  show (PyData.canLayAll0 _ && decide (PyData.depthAll _ + 1 ≤ 64)) = true
  rw [z.1, decide_eq_true (by have := z.2; omega)]
  rfl
theorem shaped_intsT (ks : List Nat) : SeqAt.shaped (.tuple (ks.map fun n : Nat => PyData.int (n : Int))) = true := by
  have z := shaped_ints (ks.map fun n : Nat => (n : Int))
  rw [List.map_map] at z
  exact z
theorem dta_nats {H : Hp} (ks : List Nat) : DtA H (ks.map fun n : Nat => V.int (n : Int)) (ks.map fun n : Nat => PyData.int (n : Int)) := by
  have z := dta_ints (H := H) (ks.map fun n : Nat => (n : Int))
  rw [List.map_map, List.map_map] at z
  exact z
theorem Fn.ws {r : Rc} (f : Fn r) : ∀ d ∈ r.needs, ∀ x ∈ d.ws, ∀ c ∈ x, c < 128 := fun d hd x hx c hc => (f.need hd).2.1 c (mem_join (List.mem_append_left _ hx) hc)
section
variable {P : Program} {w : World} {K : PySem.W.Frag} {mg : Str → Option Value} {base : Heap}
theorem ev_isR {σ : L2.St} {H : Hp} {ta : TE} {a C dx : Addr} {fs : List (Str × V)} (h : Ev ta σ H (.ref a)) (ho : H a = some (.ins C dx fs)) (ty : ∀ {H : Hp} {a dx : Addr} {fs : List (Str × V)}, H a = some (.ins C dx fs) → TyOf K H (.ref a) (.ref C)) (hk : PySem.W.kitOne K (.ref C) (.ref C) = some true) : Ev (tCB (rIsi K) (tCons ta (tCons (tC (.ref C)) tNil))) σ H (.bl true) := fun H1 e Q q =>
  h H1 e _ fun H2 e2 => ⟨.ref a, .ref C, .ref C, .ref C, true, rfl, .own C, .base (ty ((e.trans e2) _ _ ho)), hk, q H2 e2⟩
theorem ok_Record___eq__ {f : Addr} {C_Store C_Record : Addr} {fd : FuncData} (F : Fun K "__eq__" "Record.__eq__" s_Record___eq__ f fd) (T : Tx mg) (G : Gx K mg) (TC_Store : Tc_Store K C_Store) (TC_Record : Tc_Record K C_Record)  (gR : mg "Record" = some (.ref C_Record)) (tyK : ∀ {H : Hp} {a dx : Addr} {fs : List (Str × V)}, H a = some (.ins C_Record dx fs) → TyOf K H (.ref a) (.ref C_Record)) (kR : PySem.W.kitOne K (.ref C_Record) (.ref C_Record) = some true) : FnOk P w K mg base CX0 1 f fd ["self", "other"] (sp_Record___eq__ C_Record K) := by
  refine F.ok sc_Record___eq__ (fun vs H Q E h => ?_) (fun cdv A outer s H vs Q E hr h => ?_)
  · obtain ⟨a, b, rfl, _⟩ := h
    rfl
  · obtain ⟨a, b, rfl, ⟨r, ha, hb, f⟩, q⟩ := h
    refine ⟨_, (pss_one (ps_ret (pe_and (pe_callB Kn.cr_isi (by rfl) T.b_isinstance (by decide +kernel) (pa_cons (pv 1) (pa_cons (pe_glob (v := V.ref C_Record) (by rfl) gR rfl) pa_nil))) (pe_and (pe_cmpR (op_eqD hr.units) (pe_fld (pv 0) rfl) (pe_fld (pv 1) rfl) (nomark _)) (pe_and (pe_cmpR op_eq (pe_fld (pv 0) rfl) (pe_fld (pv 1) rfl) (nomark _)) (pe_and (pe_cmpR (op_eqD hr.units) (pe_fld (pv 0) rfl) (pe_fld (pv 1) rfl) (nomark _)) (pe_one (pe_cmpR (op_eqD hr.units) (pe_fld (pv 0) rfl) (pe_fld (pv 1) rfl) (nomark _))))))))), ?_⟩
    obtain ⟨dx, o, t, u, as, h1, h2, h3, h4, h5⟩ := ha.ex
    obtain ⟨dx', o', t', u', as', h1', h2', h3', h4', h5'⟩ := hb.ex
    have s1 := shaped_strsT (f.out).2
    have s2 := shaped_nds f.ws
    have s3 := shaped_intsT r.res
    have cl := TC_Record.cl
    refine s_ret (v := .bl true) (ev_is (ev_andV (a := true) (ev_isR (ev_var rfl) h1' tyK kR) fun _ => ev_andV (ev_eqD (evd_of (ev_fld (ev_var rfl) h1 cl TC_Record.na_outputs (fr_o o r.key t u)) (.tup h2 (dta_strs _))) (evd_of (ev_fld (ev_var rfl) h1' cl TC_Record.na_outputs (fr_o o' r.key t' u')) (.tup h2' (dta_strs _))) s1 s1) fun _ => ev_andV (ev_op (ev_fld (ev_var rfl) h1 cl TC_Record.na_rule_key (fr_k o r.key t u)) (ev_fld (ev_var rfl) h1' cl TC_Record.na_rule_key (fr_k o' r.key t' u')) rv_eqI) fun _ => ev_andV (ev_eqD (evd_of (ev_fld (ev_var rfl) h1 cl TC_Record.na_needs (fr_n o r.key t u)) (.tup h3 (dta_nds h4))) (evd_of (ev_fld (ev_var rfl) h1' cl TC_Record.na_needs (fr_n o' r.key t' u')) (.tup h3' (dta_nds h4'))) s2 s2) fun _ => ev_eqD (evd_of (ev_fld (ev_var rfl) h1 cl TC_Record.na_results (fr_r o r.key t u)) (.tup h5 (dta_nats _))) (evd_of (ev_fld (ev_var rfl) h1' cl TC_Record.na_results (fr_r o' r.key t' u')) (.tup h5' (dta_nats _))) s3 s3) ?_) fun H1 e1 => q H1 e1
    rw [eqv_self s1, eqv_self s2, eqv_self s3, decide_eq_true rfl]
    rfl
end
/-! ### rows of a store -/
abbrev Kp := Rc × Option (List Nat)
def RowV (H : Hp) (v : V) (x : Kp) : Prop := match x.2 with
  | none => v = .non
  | some l => ∃ a, v = .ref a ∧ H a = some (.tup [.int ((key (fmtRc x.1) : Nat) : Int), .str (S l)])
theorem RowV.keep {H H1 : Hp} {v : V} {x : Kp} (h : RowV H v x) (e : ∀ b xs, H b = some (.tup xs) → H1 b = some (.tup xs)) : RowV H1 v x := by
  unfold RowV at *
  cases hx : x.2 with
  | none => rw [hx] at h; exact h
  | some l =>
    rw [hx] at h
    obtain ⟨a, rfl, ha⟩ := h
    exact ⟨a, rfl, e _ _ ha⟩
theorem RowV.non {H : Hp} {v : V} {x : Kp} (h : RowV H v x) (hx : x.2 = none) : v = .non := by
  unfold RowV at h
  rw [hx] at h
  exact h
theorem RowV.row {H : Hp} {v : V} {x : Kp} {l : List Nat} (h : RowV H v x) (hx : x.2 = some l) : ∃ a, v = .ref a ∧ H a = some (.tup [.int ((key (fmtRc x.1) : Nat) : Int), .str (S l)]) := by
  unfold RowV at h
  rw [hx] at h
  exact h
structure GKp (x : Kp) : Prop where
  f : Fn x.1
  t : ∀ l, x.2 = some l → Txl l
def fldS (d r : Addr) : List (Str × V) := putF "_rows" (.ref r) (putF "_texts" (.ref d) (putF "journal" .non []))
theorem fld_r (d r : Addr) : (fldS d r).lookup ("_rows" : Str) = some (.ref r) := by rfl
theorem fld_j (d r : Addr) : (fldS d r).lookup ("journal" : Str) = some .non := by rfl
theorem fld_no (d r : Addr) {m : Str} (h1 : ¬ m = "_rows") (h2 : ¬ m = "_texts") (h3 : ¬ m = "journal") : (fldS d r).lookup m = none := by
  unfold fldS
  rw [lookup_putF, if_neg h1, lookup_putF, if_neg h2, lookup_putF, if_neg h3]
  rfl
structure Sto (C : Addr) (H : Hp) (p r : Addr) (xs : List Kp) : Prop where
  ex : ∃ (dx d : Addr) (vs : List V), H p = some (.ins C dx (fldS d r)) ∧ H r = some (.lst vs) ∧ Paired (RowV H) vs xs
theorem Sto.mono {C : Addr} {H H1 : Hp} {p r : Addr} {xs : List Kp} (T : Sto C H p r xs) (e : Ex H H1) : Sto C H1 p r xs := by
  obtain ⟨dx, d, vs, h1, h2, h3⟩ := T.ex
  exact ⟨dx, d, vs, e _ _ h1, e _ _ h2, Paired.mapP h3 fun _ _ z => z.keep fun b xs hb => e _ _ hb⟩
/-- the rows are changed, all other objects stay -/
theorem Sto.put {C : Addr} {H : Hp} {p r : Addr} {xs ys : List Kp} {vs : List V} (T : Sto C H p r xs) (h : Paired (RowV H) vs ys) : Sto C (L2.upd H r (.lst vs)) p r ys := by
  obtain ⟨dx, d, us, h1, h2, h3⟩ := T.ex
  exact ⟨dx, d, vs, by rw [upd_ne (ne_of h1 h2 (by intro z; cases z))]; exact h1, upd_same, Paired.mapP h fun _ _ z => z.keep fun b xs hb => by rw [upd_ne (ne_of hb h2 (by intro z; cases z))]; exact hb⟩
def Keeps (H H' : Hp) (d : Addr) : Prop := ∀ b o, H b = some o → b ≠ d → H' b = some o
theorem pair_at {α β : Type} {F : α → β → Prop} : ∀ {as : List α} {bs : List β}, Paired F as bs → ∀ {i : Nat} {b : β}, bs[i]? = some b → ∃ a, as[i]? = some a ∧ F a b
  | _, _, .cons h r, 0, b, e => by
    simp at e
    subst e
    exact ⟨_, rfl, h⟩
  | _, _, .cons h r, i + 1, b, e => by
    simp at e
    obtain ⟨a, ha, hf⟩ := pair_at r e
    exact ⟨a, by simpa using ha, hf⟩
theorem pair_set {α β : Type} {F : α → β → Prop} {a : α} {b : β} (hf : F a b) : ∀ {as : List α} {bs : List β}, Paired F as bs → ∀ (i : Nat), Paired F (as.set i a) (bs.set i b)
  | _, _, .nil, _ => .nil
  | _, _, .cons h r, 0 => .cons hf r
  | _, _, .cons h r, i + 1 => .cons h (pair_set hf r i)
/-- the line at an index -/
def lineAt (xs : List Kp) (i : Int) : Option (List Nat) := if 0 ≤ i then (xs[i.toNat]?.bind (·.2)) else none
theorem line_nat {xs : List Kp} {i : Int} {l : List Nat} (h : lineAt xs i = some l) : ∃ (j : Nat) (x : Kp), i = (j : Int) ∧ xs[j]? = some x ∧ x.2 = some l := by
  unfold lineAt at h
  split at h
  · next h0 =>
    cases hx : xs[i.toNat]? with
    | none => rw [hx] at h; cases h
    | some x =>
      rw [hx] at h
      exact ⟨i.toNat, x, by omega, hx, h⟩
  · cases h
theorem line_at {xs : List Kp} {j : Nat} {x : Kp} (h : xs[j]? = some x) : lineAt xs (j : Int) = x.2 := by
  unfold lineAt
  rw [if_pos (by omega), Int.toNat_natCast, h]
  rfl
section
variable {P : Program} {w : World} {K : PySem.W.Frag} {mg : Str → Option Value} {base : Heap}
def sp_Store___init__ (C : Addr) (_ : PySem.W.Frag) : Sp := fun vs H Q _ => ∃ (p dx : Addr), vs = [.ref p, .non] ∧ H p = some (.ins C dx []) ∧ ∀ (r : Addr) (H' : Hp), H r = none → Sto C H' p r [] → (∀ b o, H b = some o → b ≠ p → H' b = some o) → Q .non H'
theorem ok_Store___init__ {f : Addr} {C_Store C_Record : Addr} {fd : FuncData} (F : FunD K "__init__" "Store.__init__" (defArgs s_Store___init__) (defBody s_Store___init__) (defScope s_Store___init__) [.non] [] f fd) (T : Tx mg) (G : Gx K mg) (TC_Store : Tc_Store K C_Store) (TC_Record : Tc_Record K C_Record)  : FnOk P w K mg base CX0 1 f fd ["self", "journal"] (sp_Store___init__ C_Store K) := by
  refine F.ok sc_Store___init__ (fun vs H Q E h => ?_) (fun cdv A outer s H vs Q E hr h => ?_)
  · obtain ⟨p, dx, rfl, _⟩ := h
    rfl
  · obtain ⟨p, dx, rfl, hp, k⟩ := h
    refine ⟨_, (pss_cons (ps_fld (pv 0) (pv 1) rfl)
      (pss_cons (ps_fld (pv 0) pe_dnewK rfl)
      (pss_one (ps_fld (pv 0) (pe_lst pa_nil) rfl)))), ?_⟩
    refine ⟨_, rfl, _, rfl, p, C_Store, dx, [], rfl, hp, TC_Store.cl, TC_Store.na_journal, (by show 0 < 1000; decide), ?_⟩
    intro d hd
    have npd : p ≠ d := fun z => by rw [z, upd_same] at hd; cases hd
    rw [upd_ne npd.symm] at hd
    refine ⟨_, rfl, p, C_Store, dx, _, rfl, (by rw [upd_ne npd]; exact upd_same), TC_Store.cl, TC_Store.na__texts, (by show 1 < 1000; decide), ?_⟩
    refine ⟨sz_of (by show 0 ≤ 100000; decide), fun r hr => ?_⟩
    have npr : r ≠ p := fun z => by rw [z, upd_same] at hr; cases hr
    rw [upd_ne npr] at hr
    have nrd : r ≠ d := fun z => by rw [z, upd_same] at hr; cases hr
    rw [upd_ne nrd, upd_ne npr] at hr
    refine ⟨_, rfl, p, C_Store, dx, _, rfl, (by rw [upd_ne npr.symm]; exact upd_same), TC_Store.cl, TC_Store.na__rows, (by show 2 < 1000; decide), ?_⟩
    refine k r _ hr ⟨dx, d, [], upd_same, by rw [upd_ne npr, upd_same], .nil⟩ fun b o hb hne => ?_
    rw [upd_ne hne, upd_ne (ne_of_none hb hr), upd_ne hne, upd_ne (ne_of_none hb hd), upd_ne hne]
    exact hb
theorem q_unp2 {σ : L2.St} {H : Hp} {te : TE} {tz : TS} {D : Ends} {i j : Nat} {a : Addr} {v1 v2 : V} (h : Ev te σ H (.ref a)) (ha : H a = some (.tup [v1, v2])) (k : ∀ H1, Ex H H1 → tz D ((σ.set i (some v1)).set j (some v2)) H1) : tSeq (tAsg te (gTup K 2 (gCons (gName i) (gCons (gName j) gNil)))) tz D σ H := h H (Ex.refl H) _ fun H1 e1 => unp2 (e1 _ _ ha) (k H1 e1)
/-- a row is read -/
def sp__read_row (C : Addr) (_ : Gx K mg) : Sp := fun vs H Q _ => ∃ (a : Addr) (rc : Rc) (l : List Nat), vs = [.ref a] ∧ H a = some (.tup [.int ((key (fmtRc rc) : Nat) : Int), .str (S l)]) ∧ Fn rc ∧ Txl l ∧ (l ≠ fmtRc rc → Rt H .non Q) ∧ (l = fmtRc rc → Rr C H rc Q)
theorem ok__read_row {f : Addr} {C_Store C_Record : Addr} {fd : FuncData} (F : Fun K "_read_row" "_read_row" s__read_row f fd) (T : Tx mg) (G : Gx K mg) (TC_Store : Tc_Store K C_Store) (TC_Record : Tc_Record K C_Record) (C_content_key : Kn.Cl P w K mg base 1 "content_key" (sp_content_key K)) (C_parse_record : Kn.ClX P w K mg base 7 "parse_record" (sp_parse_record C_Record G)) : FnOk P w K mg base CX0 8 f fd ["row"] (sp__read_row C_Record G) := by
  refine F.ok sc__read_row (fun vs H Q E h => ?_) (fun cdv A outer s H vs Q E hr h => ?_)
  · obtain ⟨a, rc, l, rfl, _⟩ := h
    rfl
  · obtain ⟨a, rc, l, rfl, ha, f, t, q1, q2⟩ := h
    refine ⟨_, (pss_cons (ps_asg (pv 0) (pg_tup rfl (pgs_cons (pg_name (i := 1) sc__read_row.nd rfl (Or.inl rfl)) (pgs_cons (pg_name (i := 2) sc__read_row.nd rfl (Or.inl rfl)) pgs_nil))))
      (pss_cons (ps_if (pt_cmpR op_ne (Kn.pe_cl C_content_key hr (by decide) (by rfl) (pa_cons (pv 2) pa_nil)) (pv 1) (nomark _)) (pss_one (ps_ret pe_non)) pss_nil)
      (pss_one (ps_try_only (tb := fun W => (tRet (tCallS (sp_parse_record C_Record G) (WE W) (tCons (tVar 2) tNil)))) (ts := fun a cls d => (tRet (tC .non))) (Wout := (fun _ _ _ _ => False)) rfl rfl ⟨rfl, by decide, Or.inl G.g_InvalidRecord⟩ takes0
      (fun W pn xe tk po => (pss_one (ps_ret (Kn.pe_clX C_parse_record hr (by decide) (by rfl) tk (pa_cons (pv 2) pa_nil)))))
      (fun a oe cls d pn hz hf => (pss_one (ps_ret pe_non))))))), ?_⟩
    refine q_unp2 (ev_var rfl) ha fun H0 e0 => ?_
    refine q_when (b := !decide (l = fmtRc rc)) (et_is (et_test (ev_op (x := .int ((key l : Nat) : Int)) (ev_c1 (a := l) (ea_cons (ev_var rfl) ea_nil) fun _ _ => t) (ev_var rfl) rv_neI)) ?_) (fun hb H1 e1 => ?_) fun hb H1 e1 => ?_
    · congr 1
      rw [decide_eq_decide]
      exact ⟨fun h => key_inj t.2 f.x.2 (by omega), fun h => by rw [h]⟩
    · exact s_ret ev_c fun H2 e2 => q1 (by simpa using hb) H2 ((e0.trans e1).trans e2)
    · have hl : l = fmtRc rc := by simpa using hb
      refine s_retS (ea_cons (ev_var rfl) ea_nil) fun H2 e2 => ?_
      have h4 : (cut1 32 l).length = 4 := by rw [hl, f.g.words]; rfl
      exact ⟨l, rfl, by have := t.1; omega, fun z => absurd h4 z, fun _ => ⟨rc, f, hl, fun p H3 np e3 h3 => q2 hl p H3 (fresh_back ((e0.trans e1).trans e2) np) (((e0.trans e1).trans e2).trans e3) h3⟩⟩
end

/-! ### the store's methods -/
section
variable {P : Program} {w : World} {K : PySem.W.Frag} {mg : Str → Option Value} {base : Heap}
theorem s_setU {σ : L2.St} {H : Hp} {te ta tb : TE} {D : Ends} {l : Addr} {xs ys : List V} {j : Nat} (hl : H l = some (.lst xs)) (h : EvU te σ H ys) (ho : ∀ H1, Ex H H1 → Ev ta σ H1 (.ref l)) (hi : ∀ H1, Ex H H1 → Ev tb σ H1 (.int (j : Int))) (hj : j < xs.length) (k : ∀ p H1, H p = none → Ex H H1 → H1 p = some (.tup ys) → D.nx σ (L2.upd H1 l (.lst (xs.set j (.ref p))))) :
    tAsg te (gSub ta tb rSetL) D σ H := h H (Ex.refl H) _ fun p H1 np e1 hp => ho H1 e1 H1 (Ex.refl H1) _ fun H2 e2 => hi H2 (e1.trans e2) H2 (Ex.refl H2) _ fun H3 e3 =>
  ⟨l, xs, (j : Int), j, rfl, rfl, ((e1.trans e2).trans e3) l _ hl, ixN_nat hj, k p H3 np ((e1.trans e2).trans e3) ((e2.trans e3) _ _ hp)⟩
def sp_Store_record_count (C CR : Addr) (_ : PySem.W.Frag) : Sp := fun vs H Q _ => ∃ (p r : Addr) (xs : List Kp), vs = [.ref p] ∧ Sto C H p r xs ∧ Rt H (.int (xs.length : Int)) Q
theorem ev_rows {σ : L2.St} {H : Hp} {C p r dx d : Addr} {i : Nat} (hσ : σ[i]? = some (some (.ref p))) (hp : H p = some (.ins C dx (fldS d r))) (T : Tc_Store K C) : Ev (tFld K (tVar i) "_rows") σ H (.ref r) := ev_fld (ev_var hσ) hp T.cl T.na__rows (fld_r d r)
theorem ok_Store_record_count {f : Addr} {C_Store C_Record : Addr} {fd : FuncData} (F : Fun K "record_count" "Store.record_count" s_Store_record_count f fd) (T : Tx mg) (G : Gx K mg) (TC_Store : Tc_Store K C_Store) (TC_Record : Tc_Record K C_Record)  : FnOk P w K mg base CX0 1 f fd ["self"] (sp_Store_record_count C_Store C_Record K) := by
  refine F.ok sc_Store_record_count (fun vs H Q E h => ?_) (fun cdv A outer s H vs Q E hr h => ?_)
  · obtain ⟨p, r, xs, rfl, _⟩ := h
    rfl
  · obtain ⟨p, r, xs, rfl, T0, q⟩ := h
    refine ⟨_, (pss_one (ps_ret (pe_callB Kn.cr_lenSeq (by rfl) T.b_len PySem.boot_len (pa_cons (pe_fld (pv 0) rfl) pa_nil)))), ?_⟩
    obtain ⟨dx, d, us, h1, h2, h3⟩ := T0.ex
    exact s_ret (ev_is (ev_len (ev_rows rfl h1 TC_Store) (sq_of h2)) (by rw [Paired.length h3])) q
def sp_Store_kept_records (C CR : Addr) (_ : PySem.W.Frag) : Sp := fun vs H Q _ => ∃ (p r : Addr) (xs : List Kp), vs = [.ref p] ∧ Sto C H p r xs ∧ ∀ us, Paired (RowV H) us xs → Rl H us Q
theorem ok_Store_kept_records {f : Addr} {C_Store C_Record : Addr} {fd : FuncData} (F : Fun K "kept_records" "Store.kept_records" s_Store_kept_records f fd) (T : Tx mg) (G : Gx K mg) (TC_Store : Tc_Store K C_Store) (TC_Record : Tc_Record K C_Record)  : FnOk P w K mg base CX0 1 f fd ["self"] (sp_Store_kept_records C_Store C_Record K) := by
  refine F.ok sc_Store_kept_records (fun vs H Q E h => ?_) (fun cdv A outer s H vs Q E hr h => ?_)
  · obtain ⟨p, r, xs, rfl, _⟩ := h
    rfl
  · obtain ⟨p, r, xs, rfl, T0, q⟩ := h
    refine ⟨_, (pss_one (ps_ret (pe_callTy Kn.cr_listS (by rfl) T.b_list (by decide +kernel) (pa_cons (pe_fld (pv 0) rfl) pa_nil)))), ?_⟩
    obtain ⟨dx, d, us, h1, h2, h3⟩ := T0.ex
    exact s_retL (el_list (ev_rows rfl h1 TC_Store) (sq_of h2)) (q us h3)
def sp_Store_add_record (C CR : Addr) (_ : PySem.W.Frag) : Sp := fun vs H Q _ => ∃ (p r a : Addr) (rc : Rc) (xs : List Kp), vs = [.ref p, .ref a] ∧ Sto C H p r xs ∧ RcO CR H a rc ∧ Fn rc ∧ xs.length < 1000 ∧
  ∀ H', Sto C H' p r (xs ++ [(rc, some (fmtRc rc))]) → Keeps H H' r → Q (.int (xs.length : Int)) H'
theorem ok_Store_add_record {f : Addr} {C_Store C_Record : Addr} {fd : FuncData} (F : Fun K "add_record" "Store.add_record" s_Store_add_record f fd) (T : Tx mg) (G : Gx K mg) (TC_Store : Tc_Store K C_Store) (TC_Record : Tc_Record K C_Record) (C_format_record : Kn.Cl P w K mg base 3 "format_record" (sp_format_record C_Record K)) (C_content_key : Kn.Cl P w K mg base 1 "content_key" (sp_content_key K)) : FnOk P w K mg base CX0 4 f fd ["self", "record"] (sp_Store_add_record C_Store C_Record K) := by
  refine F.ok sc_Store_add_record (fun vs H Q E h => ?_) (fun cdv A outer s H vs Q E hr h => ?_)
  · obtain ⟨p, r, a, rc, xs, rfl, _⟩ := h
    rfl
  · obtain ⟨p, r, a, rc, xs, rfl, T0, ha, f, hl, q⟩ := h
    refine ⟨_, (pss_cons (ps_set (i := 2) sc_Store_add_record.nd rfl (Or.inl rfl) (Kn.pe_cl C_format_record hr (by decide) (by rfl) (pa_cons (pv 1) pa_nil)))
      (pss_cons (ps_if (pt_cmpR op_notN1 (pe_fld (pv 0) rfl) pe_non (nomark _)) (pss_one Kn.ps_dead) pss_nil)
      (pss_cons (ps_expr (pe_bm PySem.F.plainAttrs_list PySem.F.slot_list_append PySem.F.type_list_append mt_append (pe_fld (pv 0) rfl) (pa_cons (pe_tup (pa_cons (Kn.pe_cl C_content_key hr (by decide) (by rfl) (pa_cons (pv 2) pa_nil)) (pa_cons (pv 2) pa_nil))) pa_nil)))
      (pss_one (ps_ret (pe_op op_sub (pe_callB Kn.cr_lenSeq (by rfl) T.b_len PySem.boot_len (pa_cons (pe_fld (pv 0) rfl) pa_nil)) pe_int)))))), ?_⟩
    refine q_asg (ev_c2 (a := a) (b := rc) (ea_cons (ev_var rfl) ea_nil) fun _ e => ⟨ha.mono e, f⟩) fun H1 e1 => ?_
    have T1 := T0.mono e1
    obtain ⟨dx, d, us, h1, h2, h3⟩ := T1.ex
    refine q_when (b := false) (et_is (et_notN (ev_fld (ev_var rfl) h1 TC_Store.cl TC_Store.na_journal (fld_j d r))) rfl) (fun z => nomatch z) fun _ H2 e2 => ?_
    have hus : us.length = xs.length := Paired.length h3
    refine q_appU (ys := [.int ((key (fmtRc rc) : Nat) : Int), .str (S (fmtRc rc))]) (e2 _ _ h2) (ev_rows rfl (e2 _ _ h1) TC_Store) (eu_tup (ea_cons (ev_c1 (a := fmtRc rc) (ea_cons (ev_var rfl) ea_nil) fun _ _ => f.x) (ea_cons (ev_var rfl) ea_nil)) (by show 2 ≤ 100000; decide)) (by omega) fun t H3 nt e3 ht => ?_
    have T3 := (T1.mono e2).mono e3
    have T4 : Sto C_Store (L2.upd H3 r (.lst (us ++ [.ref t]))) p r (xs ++ [(rc, some (fmtRc rc))]) := T3.put (pair_snoc (show RowV H3 (.ref t) (rc, some (fmtRc rc)) from ⟨t, rfl, ht⟩) (Paired.mapP h3 fun _ _ z => z.keep fun b ys hb => e3 _ _ (e2 _ _ hb)))
    obtain ⟨dx4, d4, us4, h14, h24, h34⟩ := id T4.ex
    refine s_ret (v := .int (xs.length : Int)) (ev_is (ev_op (ev_is (ev_len (ev_rows rfl h14 TC_Store) (sq_of h24)) (by rw [Paired.length h34, List.length_append])) ev_c rv_I0) ?_) fun H5 e5 => q H5 (T4.mono e5) fun b o hb hne => e5 _ _ ?_
    · show V.int (((xs.length + 1 : Nat) : Int) - 1) = _
      congr 1
      omega
    · rw [upd_ne hne]
      exact e3 _ _ (e2 _ _ (e1 _ _ hb))
def sp_Store__check_kept (C CR : Addr) (G : Gx K mg) : Sp := fun vs H Q E => ∃ (p r : Addr) (i : Int) (xs : List Kp), vs = [.ref p, .int i] ∧ Sto C H p r xs ∧ (-1 ≤ i ∧ i ≤ 1000) ∧ (lineAt xs i = none → Rzv H E G.c_NoSuchRecord "index" (.int i)) ∧ (∀ l, lineAt xs i = some l → Rt H .non Q)
theorem ok_Store__check_kept {f : Addr} {C_Store C_Record : Addr} {fd : FuncData} (F : Fun K "_check_kept" "Store._check_kept" s_Store__check_kept f fd) (T : Tx mg) (G : Gx K mg) (TC_Store : Tc_Store K C_Store) (TC_Record : Tc_Record K C_Record) (Z_NoSuchRecord : Kn.Xk P w K mg base 1 "NoSuchRecord" G.c_NoSuchRecord (sp_I1z "index" K)) : FnOk P w K mg base (L2N.CX P w) 3 f fd ["self", "index"] (sp_Store__check_kept C_Store C_Record G) := by
  refine Kn.okXN F sc_Store__check_kept (fun vs H Q E h => ?_) (fun cdv A outer s H vs Q E hr h => ?_)
  · obtain ⟨p, r, i, xs, rfl, _⟩ := h
    rfl
  · obtain ⟨p, r, i, xs, rfl, T0, hi, q1, q2⟩ := h
    refine ⟨_, (pss_one (ps_if (PW.pt (pw_or (pt_not (pt_chain op_le op_lt pe_int (pv 1) (pe_callB Kn.cr_lenSeq (by rfl) T.b_len PySem.boot_len (pa_cons (pe_fld (pv 0) rfl) pa_nil)))) (pw_or1 (pt_cmpR op_isN1 (pe_ix ix_list (pe_fld (pv 0) rfl) (pv 1) (fun _ _ => rfl)) pe_non (nomark _))))) (pss_one (Kn.ps_xkN Z_NoSuchRecord hr (by decide) rfl (L2N.takes_of rfl rfl rfl rfl) (by rfl) (pa_cons (pv 1) pa_nil))) pss_nil)), ?_⟩
    obtain ⟨dx, d, us, h1, h2, h3⟩ := T0.ex
    have hus : us.length = xs.length := Paired.length h3
    have bad : ∀ H1, Ex H H1 → lineAt xs i = none → tMkO G.c_NoSuchRecord (sp_I1z "index" K) [] (tCons (tVar 1) tNil) [some (.ref p), some (.int i)] H1 (fun cls d H' => E cls d H') := fun H1 e1 hn =>
      raise1z (W := fun cls d _ H => E cls d H) G.x_NoSuchRecord.oe G.n_NoSuchRecord_index (sm_I (by omega) (by omega)) (ev_var rfl) fun d H' e hd => q1 hn d H' (e1.trans e) hd
    have hch : EvT (tNot (tTest (tChain (rI0 fun i j => .bl (decide (i ≤ j))) (rI0 fun i j => .bl (decide (i < j))) (tC (.int 0)) (tVar 1) (tCB (rLenS K) (tCons (tFld K (tVar 0) "_rows") tNil))))) [some (.ref p), some (.int i)] H (!(decide (0 ≤ i) && decide (i < (xs.length : Int)))) :=
      et_not (et_test (ev_chain ev_c (ev_var rfl) rv_le (ev_is (ev_len (ev_rows rfl h1 TC_Store) (sq_of h2)) (by rw [hus])) rv_lt))
    cases hl : lineAt xs i with
    | none =>
      refine s_when (b := true) (et_is (et_or (b := true) hch fun hc => ?_) (by rw [Bool.or_true])) (fun _ H1 e1 => bad H1 e1 hl) (fun z => nomatch z)
      rw [Bool.not_eq_false', Bool.and_eq_true, decide_eq_true_eq, decide_eq_true_eq] at hc
      obtain ⟨hc1, hc2⟩ := hc
      have hj : i.toNat < xs.length := by omega
      have hx := List.getElem?_eq_getElem hj
      obtain ⟨v, hv, hrv⟩ := pair_at h3 hx
      have hz := line_at hx
      rw [show ((i.toNat : Nat) : Int) = i by omega, hl] at hz
      exact et_is (et_isN (ev_op (ev_rows rfl h1 TC_Store) (ev_var rfl) (rv_ixL (sq_of h2) (atI_nat' (j := i.toNat) (by omega) hv)))) (by rw [hrv.non hz.symm]; rfl)
    | some l =>
      obtain ⟨j, x, hij, hx, hxl⟩ := line_nat hl
      obtain ⟨v, hv, hrv⟩ := pair_at h3 hx
      have hj := (List.getElem?_eq_some_iff.mp hx).1
      obtain ⟨a, rfl, ha⟩ := hrv.row hxl
      refine s_when (b := false) (et_is (et_or (b := false) hch fun hc => et_is (et_isN (ev_op (ev_rows rfl h1 TC_Store) (ev_var rfl) (rv_ixL (sq_of h2) (atI_nat' hij hv)))) rfl) ?_) (fun z => nomatch z) (fun _ H1 e1 => q2 l hl H1 e1)
      rw [decide_eq_true (by omega), decide_eq_true (by omega)]
      rfl
/-- the check as a statement -/
theorem q_check {σ : L2.St} {H : Hp} {D : Ends} {tz : TS} {W : WX} {C CR p r dx d : Addr} {i : Int} {xs : List Kp} {G : Gx K mg} (hp : σ[0]? = some (some (.ref p))) (hi : σ[1]? = some (some (.int i))) (T0 : Sto C H p r xs) (hb : -1 ≤ i ∧ i ≤ 1000)
    (q1 : lineAt xs i = none → Rzv H (WE W σ) G.c_NoSuchRecord "index" (.int i)) (q2 : ∀ l, lineAt xs i = some l → ∀ H1, Ex H H1 → tz D σ H1) :
    tSeq (tDrop (tMethX C "_check_kept" (sp_Store__check_kept C CR G) (WE W) (tVar 0) (tCons (tVar 1) tNil))) tz D σ H := by
  obtain ⟨dx, d, us, h1, h2, h3⟩ := T0.ex
  refine ⟨_, hp, p, dx, _, rfl, h1, fld_no d r (by decide +kernel) (by decide +kernel) (by decide +kernel), ?_⟩
  refine ea_cons (ev_var hi) ea_nil H (Ex.refl _) _ fun H1 e1 => ?_
  exact ⟨p, r, i, xs, rfl, T0.mono e1, hb, fun hn => (q1 hn).mono e1, fun l hl H2 e2 => q2 l hl H2 (e1.trans e2)⟩
def sp_Store_record (C CR : Addr) (G : Gx K mg) : Sp := fun vs H Q E => ∃ (p r : Addr) (i : Int) (xs : List Kp), vs = [.ref p, .int i] ∧ Sto C H p r xs ∧ (∀ x ∈ xs, GKp x) ∧ (-1 ≤ i ∧ i ≤ 1000) ∧ (lineAt xs i = none → Rzv H E G.c_NoSuchRecord "index" (.int i)) ∧
  (∀ (j : Nat) (x : Kp) (l : List Nat), i = (j : Int) → xs[j]? = some x → x.2 = some l → (l ≠ fmtRc x.1 → Rzv H E G.c_DamagedRecord "index" (.int i)) ∧ (l = fmtRc x.1 → Rr CR H x.1 Q))
theorem ok_Store_record {f : Addr} {C_Store C_Record : Addr} {fd : FuncData} (F : Fun K "record" "Store.record" s_Store_record f fd) (T : Tx mg) (G : Gx K mg) (TC_Store : Tc_Store K C_Store) (TC_Record : Tc_Record K C_Record) (M_Store__check_kept : Kn.MtXN P w K mg base 3 C_Store "_check_kept" (sp_Store__check_kept C_Store C_Record G)) (C__read_row : Kn.Cl P w K mg base 8 "_read_row" (sp__read_row C_Record G)) (Z_DamagedRecord : Kn.Xk P w K mg base 1 "DamagedRecord" G.c_DamagedRecord (sp_I1z "index" K)) : FnOk P w K mg base (L2N.CX P w) 9 f fd ["self", "index"] (sp_Store_record C_Store C_Record G) := by
  refine Kn.okXN F sc_Store_record (fun vs H Q E h => ?_) (fun cdv A outer s H vs Q E hr h => ?_)
  · obtain ⟨p, r, i, xs, rfl, _⟩ := h
    rfl
  · obtain ⟨p, r, i, xs, rfl, T0, hg, hi, q1, q2⟩ := h
    refine ⟨_, (pss_cons (ps_expr (Kn.pe_mtXN M_Store__check_kept hr (by decide) (L2N.takes_of rfl rfl rfl rfl) (pv 0) (pa_cons (pv 1) pa_nil)))
      (pss_cons (ps_set (i := 2) sc_Store_record.nd rfl (Or.inl rfl) (Kn.pe_cl C__read_row hr (by decide) (by rfl) (pa_cons (pe_ix ix_list (pe_fld (pv 0) rfl) (pv 1) (fun _ _ => rfl)) pa_nil)))
      (pss_cons (ps_if (pt_cmpR op_isN1 (pv 2) pe_non (nomark _)) (pss_one (Kn.ps_xkN Z_DamagedRecord hr (by decide) rfl (L2N.takes_of rfl rfl rfl rfl) (by rfl) (pa_cons (pv 1) pa_nil))) pss_nil)
      (pss_one (ps_ret (pv 2)))))), ?_⟩
    refine q_check (dx := p) (d := p) rfl rfl T0 hi q1 fun l hl H1 e1 => ?_
    obtain ⟨j, x, hij, hx, hxl⟩ := line_nat hl
    obtain ⟨dx, d, us, h1, h2, h3⟩ := (T0.mono e1).ex
    obtain ⟨v, hv, hrv⟩ := pair_at h3 hx
    obtain ⟨a, rfl, ha⟩ := hrv.row hxl
    have gx := hg x (List.mem_of_getElem? hx)
    obtain ⟨z1, z2⟩ := q2 j x l hij hx hxl
    refine q_asgC (ea_cons (ev_op (ev_rows rfl h1 TC_Store) (ev_var rfl) (rv_ixL (sq_of h2) (atI_nat' hij hv))) ea_nil) fun H2 e2 => ?_
    refine ⟨a, x.1, l, rfl, e2 _ _ ha, gx.f, gx.t l hxl, fun hne H3 e3 => ?_, fun he b H3 nb e3 hb => ?_⟩
    · refine q_when (b := true) (et_is (et_isN (ev_var rfl)) rfl) (fun _ H4 e4 => ?_) (fun z => nomatch z)
      exact raise1z (W := fun cls d _ H => E cls d H) G.x_DamagedRecord.oe G.n_DamagedRecord_index (sm_I (by omega) (by omega)) (ev_var rfl) fun d H' e hd => z1 hne d H' ((((e1.trans e2).trans e3).trans e4).trans e) hd
    · refine q_when (b := false) (et_is (et_isN (ev_var rfl)) rfl) (fun z => nomatch z) fun _ H4 e4 => ?_
      exact s_ret (ev_var rfl) fun H5 e5 => z2 he b H5 (fresh_back (e1.trans e2) nb) ((((e1.trans e2).trans e3).trans e4).trans e5) ((hb.mono e4).mono e5)
def sp_Store_lose_record (C CR : Addr) (G : Gx K mg) : Sp := fun vs H Q E => ∃ (p r : Addr) (i : Int) (xs : List Kp), vs = [.ref p, .int i] ∧ Sto C H p r xs ∧ (-1 ≤ i ∧ i ≤ 1000) ∧ (lineAt xs i = none → Rzv H E G.c_NoSuchRecord "index" (.int i)) ∧
  (∀ (j : Nat) (x : Kp) (l : List Nat), i = (j : Int) → xs[j]? = some x → x.2 = some l → ∀ H', Sto C H' p r (xs.set j (x.1, none)) → Keeps H H' r → Q .non H')
theorem ok_Store_lose_record {f : Addr} {C_Store C_Record : Addr} {fd : FuncData} (F : Fun K "lose_record" "Store.lose_record" s_Store_lose_record f fd) (T : Tx mg) (G : Gx K mg) (TC_Store : Tc_Store K C_Store) (TC_Record : Tc_Record K C_Record) (M_Store__check_kept : Kn.MtXN P w K mg base 3 C_Store "_check_kept" (sp_Store__check_kept C_Store C_Record G)) : FnOk P w K mg base (L2N.CX P w) 4 f fd ["self", "index"] (sp_Store_lose_record C_Store C_Record G) := by
  refine Kn.okXN F sc_Store_lose_record (fun vs H Q E h => ?_) (fun cdv A outer s H vs Q E hr h => ?_)
  · obtain ⟨p, r, i, xs, rfl, _⟩ := h
    rfl
  · obtain ⟨p, r, i, xs, rfl, T0, hi, q1, q2⟩ := h
    refine ⟨_, (pss_cons (ps_expr (Kn.pe_mtXN M_Store__check_kept hr (by decide) (L2N.takes_of rfl rfl rfl rfl) (pv 0) (pa_cons (pv 1) pa_nil)))
      (pss_one (ps_asg pe_non (pg_sub (pe_fld (pv 0) rfl) (pv 1) set_list)))), ?_⟩
    refine q_check (dx := p) (d := p) rfl rfl T0 hi q1 fun l hl H1 e1 => ?_
    obtain ⟨j, x, hij, hx, hxl⟩ := line_nat hl
    obtain ⟨dx, d, us, h1, h2, h3⟩ := (T0.mono e1).ex
    have hj := (List.getElem?_eq_some_iff.mp hx).1
    subst hij
    refine s_setL (j := j) h2 ev_c (ev_rows rfl h1 TC_Store) (ev_var rfl) (by rw [Paired.length h3]; exact hj) fun H2 e2 => ?_
    refine q2 j x l rfl hx hxl _ (((T0.mono e1).mono e2).put (pair_set (show RowV H2 .non (x.1, none) from rfl) (Paired.mapP h3 fun _ _ z => z.keep fun b ys hb => e2 _ _ hb) j)) fun b o hb hne => ?_
    rw [upd_ne hne]
    exact e2 _ _ (e1 _ _ hb)
def sp_Store_damage_record (C CR : Addr) (G : Gx K mg) : Sp := fun vs H Q E => ∃ (p r : Addr) (i : Int) (m : List Nat) (xs : List Kp), vs = [.ref p, .int i, .str (S m)] ∧ Sto C H p r xs ∧ (-1 ≤ i ∧ i ≤ 1000) ∧ (lineAt xs i = none → Rzv H E G.c_NoSuchRecord "index" (.int i)) ∧
  (∀ (j : Nat) (x : Kp) (l : List Nat), i = (j : Int) → xs[j]? = some x → x.2 = some l → ∀ H', Sto C H' p r (xs.set j (x.1, some m)) → Keeps H H' r → Q .non H')
theorem ok_Store_damage_record {f : Addr} {C_Store C_Record : Addr} {fd : FuncData} (F : Fun K "damage_record" "Store.damage_record" s_Store_damage_record f fd) (T : Tx mg) (G : Gx K mg) (TC_Store : Tc_Store K C_Store) (TC_Record : Tc_Record K C_Record) (M_Store__check_kept : Kn.MtXN P w K mg base 3 C_Store "_check_kept" (sp_Store__check_kept C_Store C_Record G)) : FnOk P w K mg base (L2N.CX P w) 4 f fd ["self", "index", "line"] (sp_Store_damage_record C_Store C_Record G) := by
  refine Kn.okXN F sc_Store_damage_record (fun vs H Q E h => ?_) (fun cdv A outer s H vs Q E hr h => ?_)
  · obtain ⟨p, r, i, m, xs, rfl, _⟩ := h
    rfl
  · obtain ⟨p, r, i, m, xs, rfl, T0, hi, q1, q2⟩ := h
    refine ⟨_, (pss_cons (ps_expr (Kn.pe_mtXN M_Store__check_kept hr (by decide) (L2N.takes_of rfl rfl rfl rfl) (pv 0) (pa_cons (pv 1) pa_nil)))
      (pss_one (ps_asg (pe_tup (pa_cons (pe_ix ix_tup (pe_ix ix_list (pe_fld (pv 0) rfl) (pv 1) (fun _ _ => rfl)) pe_int (fun _ _ => rfl)) (pa_cons (pv 2) pa_nil))) (pg_sub (pe_fld (pv 0) rfl) (pv 1) set_list)))), ?_⟩
    refine q_check (dx := p) (d := p) rfl rfl T0 hi q1 fun l hl H1 e1 => ?_
    obtain ⟨j, x, hij, hx, hxl⟩ := line_nat hl
    obtain ⟨dx, d, us, h1, h2, h3⟩ := (T0.mono e1).ex
    obtain ⟨v, hv, hrv⟩ := pair_at h3 hx
    obtain ⟨a, rfl, ha⟩ := hrv.row hxl
    have hj := (List.getElem?_eq_some_iff.mp hx).1
    subst hij
    refine s_setU (j := j) (ys := [.int ((key (fmtRc x.1) : Nat) : Int), .str (S m)]) h2 (eu_tup (ea_cons (ev_op (ev_op (ev_rows rfl h1 TC_Store) (ev_var rfl) (rv_ixL (sq_of h2) (atI_nat' rfl hv))) ev_c (rv_ixT (st_of ha) (atI_nat (j := 0) rfl))) (ea_cons (ev_var rfl) ea_nil)) (by show 2 ≤ 100000; decide)) (fun H2 e2 => ev_rows rfl (e2 _ _ h1) TC_Store) (fun H2 e2 => ev_var rfl) (by rw [Paired.length h3]; exact hj) fun t H2 nt e2 ht => ?_
    refine q2 j x l rfl hx hxl _ (((T0.mono e1).mono e2).put (pair_set (show RowV H2 (.ref t) (x.1, some m) from ⟨t, rfl, ht⟩) (Paired.mapP h3 fun _ _ z => z.keep fun b ys hb => e2 _ _ hb) j)) fun b o hb hne => ?_
    rw [upd_ne hne]
    exact e2 _ _ (e1 _ _ hb)
/-! ### records are found -/
def hit (pr : Rc) (x : Kp) : Bool := decide (x.2 = some (fmtRc x.1)) && (decide (x.1.outs = pr.outs) && decide (x.1.key = pr.key))
def hitAt (pr : Rc) (xs : List Kp) (i : Nat) : Bool := (xs[i]?.map (hit pr)).getD false
def startL (pr : Rc) : List Nat := TL.joinL [32] [TL.joinL [44] pr.outs, TL.numL pr.key, []]
theorem pre_iff (s l : List Nat) : TL.pre s l = true ↔ ∃ t, l = s ++ t := by
  unfold TL.pre
  rw [beq_iff_eq]
  constructor
  · intro h
    exact ⟨l.drop s.length, by
      have := List.take_append_drop s.length l
      rw [h] at this
      exact this.symm⟩
  · rintro ⟨t, rfl⟩
    simp
theorem start_pre {pr r : Rc} (g : GRc pr) (g2 : GRc r) : TL.pre (startL pr) (fmtRc r) = (decide (r.outs = pr.outs) && decide (r.key = pr.key)) := by
  have n1 : ∀ {x : Rc}, GRc x → 32 ∉ TL.joinL [44] x.outs := fun g => join_free (by decide) fun o ho => (g.op o ho).2.2
  have n2 : ∀ n, 32 ∉ TL.numL n := fun n => TL.numL_free (by omega)
  have es : startL pr = TL.joinL [44] pr.outs ++ ([32] ++ (TL.numL pr.key ++ ([32] ++ []))) := rfl
  rw [Bool.eq_iff_iff, pre_iff, Bool.and_eq_true, decide_eq_true_eq, decide_eq_true_eq]
  constructor
  · rintro ⟨t, ht⟩
    have hc := g2.words
    rw [ht, es] at hc
    have e1 : TL.joinL [44] pr.outs ++ ([32] ++ (TL.numL pr.key ++ ([32] ++ []))) ++ t = TL.joinL [44] pr.outs ++ (32 :: [] ++ (TL.numL pr.key ++ (32 :: [] ++ t))) := by simp
    rw [e1] at hc
    unfold cut1 at hc
    rw [TL.spl_part1 (n1 g), TL.spl_part1 (n2 _)] at hc
    unfold Kn.Rp.words at hc
    have h1 := (List.cons.inj hc).1
    have h2 := (List.cons.inj (List.cons.inj hc).2).1
    refine ⟨?_, (TL.numL_inj h2).symm⟩
    rw [← g2.outs, ← g.outs, ← show [] ++ TL.joinL [44] pr.outs = TL.joinL [44] pr.outs from rfl, h1]
  · rintro ⟨h1, h2⟩
    refine ⟨fmtNds r.needs ++ ([32] ++ TL.joinL [44] (r.res.map TL.numL)), ?_⟩
    rw [es, ← h1, ← h2]
    show TL.joinL [44] r.outs ++ ([32] ++ (TL.numL r.key ++ ([32] ++ (fmtNds r.needs ++ ([32] ++ TL.joinL [44] (r.res.map TL.numL)))))) = _
    simp
def upto (pr : Rc) (xs : List Kp) (n : Nat) : List Nat := (List.range n).filter (hitAt pr xs)
theorem upto_yes {pr : Rc} {xs : List Kp} {n : Nat} (h : hitAt pr xs n = true) : upto pr xs (n + 1) = upto pr xs n ++ [n] := by
  unfold upto
  rw [List.range_succ, List.filter_append, List.filter_cons, if_pos h]
  rfl
theorem upto_no {pr : Rc} {xs : List Kp} {n : Nat} (h : hitAt pr xs n = false) : upto pr xs (n + 1) = upto pr xs n := by
  unfold upto
  rw [List.range_succ, List.filter_append, List.filter_cons, if_neg (by rw [h]; decide)]
  show _ ++ [] = _
  rw [List.append_nil]
theorem upto_len (pr : Rc) (xs : List Kp) (n : Nat) : (upto pr xs n).length ≤ n := by
  unfold upto
  have := List.length_filter_le (hitAt pr xs) (List.range n)
  rw [List.length_range] at this
  exact this
def natsV (ns : List Nat) : List V := ns.map fun n : Nat => V.int (n : Int)
def sp_Store_find_records (C CR : Addr) (_ : PySem.W.Frag) : Sp := fun vs H Q _ => ∃ (p r o : Addr) (pr : Rc) (xs : List Kp), vs = [.ref p, .ref o, .int (pr.key : Int)] ∧ Sto C H p r xs ∧ (∀ x ∈ xs, GKp x) ∧ xs.length < 1000 ∧ H o = some (.tup (strsV pr.outs)) ∧ Fn pr ∧ Rl H (natsV (upto pr xs xs.length).reverse) Q
theorem ok_Store_find_records {f : Addr} {C_Store C_Record : Addr} {fd : FuncData} (F : Fun K "find_records" "Store.find_records" s_Store_find_records f fd) (T : Tx mg) (G : Gx K mg) (TC_Store : Tc_Store K C_Store) (TC_Record : Tc_Record K C_Record) (C__read_row : Kn.Cl P w K mg base 8 "_read_row" (sp__read_row C_Record G)) : FnOk P w K mg base CX0 9 f fd ["self", "outputs", "rule_key"] (sp_Store_find_records C_Store C_Record K) := by
  refine F.ok sc_Store_find_records (fun vs H Q E h => ?_) (fun cdv A outer s H vs Q E hr h => ?_)
  · obtain ⟨p, r, o, pr, xs, rfl, _⟩ := h
    rfl
  · obtain ⟨p, r, o, pr, xs, rfl, T0, hg, hlen, ho, f, q⟩ := h
    refine ⟨_, (pss_cons (ps_set (i := 3) sc_Store_find_records.nd rfl (Or.inl rfl) (Kn.pe_joinN (pe_join pe_str (pe_lst (pa_cons (Kn.pe_joinN (pe_join pe_str (pv 1))) (pa_cons (pe_joined1 (pe_fmt (pv 2))) (pa_cons pe_str pa_nil)))))))
      (pss_cons (ps_set (i := 4) sc_Store_find_records.nd rfl (Or.inl rfl) (pe_lst pa_nil))
      (pss_cons (ps_for PassesOwn.never rfl (pi_enum (by rfl) T.b_enumerate (pa_cons (pe_fld (pv 0) rfl) pa_nil)) (pg_tup rfl (pgs_cons (pg_name (i := 5) sc_Store_find_records.nd rfl (Or.inl rfl)) (pgs_cons (pg_name (i := 6) sc_Store_find_records.nd rfl (Or.inl rfl)) pgs_nil))) (pss_one (ps_if (PW.pt (pw_and (pt_cmpR op_notN1 (pv 6) pe_non (nomark _)) (pw_and (pt_val (pe_m1 PySem.F.slot_str_startswith PySem.F.type_str_startswith Kn.mt_startswith (pe_ix ix_tup (pv 6) pe_int (fun _ _ => rfl)) (pv 3))) (pw_and1 (pt_cmpR op_notN1 (Kn.pe_cl C__read_row hr (by decide) (by rfl) (pa_cons (pv 6) pa_nil)) pe_non (nomark _)))))) (pss_one (ps_expr (pe_bm PySem.F.plainAttrs_list PySem.F.slot_list_append PySem.F.type_list_append mt_append (pv 4) (pa_cons (pv 5) pa_nil)))) pss_nil)))
      (pss_one (ps_ret (pe_revL (pv 4))))))), ?_⟩
    have hfo := f.out.1
    have hk6 := f.g.kk.len
    have l0 := join_len 44 pr.outs f.g.o1
    refine q_asg (v := .str (S (startL pr))) (ev_join (s := [32]) (ys := [TL.joinL [44] pr.outs, TL.numL pr.key, []]) (ev_cS (l := [32]) rfl) (el_lst (ea_cons (ev_joinT (ev_cS (l := [44]) rfl) (ev_var rfl) ho (by show _ + _ * 1 ≤ _; omega)) (ea_cons (ev_fmtN (ev_var rfl) f.g.kk.log) (ea_cons (ev_cS (l := []) rfl) ea_nil))) (by show 3 ≤ 100000; decide)) (by show (TL.joinL [44] pr.outs).length + ((TL.numL pr.key).length + (0 + 0)) + 3 * 1 ≤ _; omega)) fun H1 e1 => ?_
    refine q_asgL (xs := natsV (upto pr xs 0)) (el_lst ea_nil (by show 0 ≤ 100000; decide)) fun b H2 nb e2 hb => ?_
    obtain ⟨dx, d, us, h1, h2, h3⟩ := ((T0.mono e1).mono e2).ex
    have hus : us.length = xs.length := Paired.length h3
    have nb0 := fresh_back e1 nb
    refine q_forEn (a := r) (xs := us) (ev_rows rfl h1 TC_Store) (sq_of h2) (fun n σ' H' => ∃ y5 y6, σ' = [some (.ref p), some (.ref o), some (.int (pr.key : Int)), some (.str (S (startL pr))), some (.ref b), y5, y6] ∧ Ex H H' ∧ H' b = some (.lst (natsV (upto pr xs n)))) (fun H3 e3 => ⟨_, _, rfl, (e1.trans e2).trans e3, e3 _ _ hb⟩) (fun n σ' H' hn h => ?_) ?_ ?_
    · obtain ⟨_, _, _, e, _⟩ := h
      have T' := T0.mono e
      obtain ⟨dx', d', us', h1', h2', h3'⟩ := T'.ex
      obtain ⟨dx0, d0, us0, h10, h20, h30⟩ := T0.ex
      have z1 := e _ _ h20
      have z2 := e2 _ _ (e1 _ _ h20)
      rw [h2] at z2
      have e3 : us = us0 := by injection z2 with z; injection z
      rw [e3]
      exact sq_of z1
    · rintro n v σ' H' H4 hv ⟨y5, y6, rfl, e, hbn⟩ e4
      obtain ⟨x, hx, hrv⟩ := pair_get h3 hv
      have gx := hg x (List.mem_of_getElem? hx)
      have hn := (List.getElem?_eq_some_iff.mp hx).1
      have hul := upto_len pr xs n
      have done : ∀ H5, Ex H4 H5 → hitAt pr xs n = false → ∃ y5 y6, ([some (.ref p), some (.ref o), some (.int (pr.key : Int)), some (.str (S (startL pr))), some (.ref b), some (.int (n : Int)), some v] : L2.St) = [some (.ref p), some (.ref o), some (.int (pr.key : Int)), some (.str (S (startL pr))), some (.ref b), y5, y6] ∧ Ex H H5 ∧ H5 b = some (.lst (natsV (upto pr xs (n + 1)))) := fun H5 e5 hh => ⟨_, _, rfl, (e.trans e4).trans e5, by rw [upto_no hh]; exact e5 _ _ (e4 _ _ hbn)⟩
      have hh : hitAt pr xs n = hit pr x := by unfold hitAt; rw [hx]; rfl
      cases hx2 : x.2 with
      | none =>
        have hv0 := hrv.non hx2
        subst hv0
        refine s_when (b := false) (et_is (et_and (a := false) (b := false) (et_is (et_notN (ev_var rfl)) rfl) fun z => nomatch z) rfl) (fun z => nomatch z) fun _ H5 e5 => done H5 e5 ?_
        rw [hh]
        unfold hit
        rw [hx2, decide_eq_false (by intro z; cases z)]
        rfl
      | some l =>
        obtain ⟨a, rfl, ha⟩ := hrv.row hx2
        have ha4 : ∀ H5, Ex H4 H5 → H5 a = some (.tup [.int ((key (fmtRc x.1) : Nat) : Int), .str (S l)]) := fun H5 e5 => by
          obtain ⟨dx0, d0, us0, h10, h20, h30⟩ := T0.ex
          have z2 := e2 _ _ (e1 _ _ h20)
          rw [h2] at z2
          have e3 : us = us0 := by injection z2 with z; injection z
          rw [e3] at hv
          obtain ⟨x', hx', hrv'⟩ := pair_get h30 hv
          rw [hx] at hx'
          cases hx'
          obtain ⟨a', ea', ha'⟩ := hrv'.row hx2
          cases ea'
          exact e5 _ _ (e4 _ _ (e _ _ ha'))
        have tl := gx.t l hx2
        have c1 : EvT (tTest (tOp rNotN (tVar 6) (tC .non))) [some (.ref p), some (.ref o), some (.int (pr.key : Int)), some (.str (S (startL pr))), some (.ref b), some (.int (n : Int)), some (.ref a)] H4 true := et_is (et_notN (ev_var rfl)) rfl
        have c2 : EvT (tB (tM1 rStarts (tOp (rIxT K) (tVar 6) (tC (.int 1))) (tVar 3))) [some (.ref p), some (.ref o), some (.int (pr.key : Int)), some (.str (S (startL pr))), some (.ref b), some (.int (n : Int)), some (.ref a)] H4 (TL.pre (startL pr) l) := et_B (ev_startsG (ev_op (ev_var rfl) ev_c (rv_ixT (st_of (ha4 H4 (Ex.refl _))) (atI_nat (j := 1) rfl))) (ev_var rfl) (by
          intro z
          have := congrArg List.length z
          unfold startL at this
          have h3 := join_len 32 [TL.joinL [44] pr.outs, TL.numL pr.key, []] (by simp)
          rw [this] at h3
          simp at h3))
        by_cases hl : l = fmtRc x.1
        · have c3 : EvT (tTest (tOp rNotN (tCall (sp__read_row C_Record G) [] E0 (tCons (tVar 6) tNil)) (tC .non))) [some (.ref p), some (.ref o), some (.int (pr.key : Int)), some (.str (S (startL pr))), some (.ref b), some (.int (n : Int)), some (.ref a)] H4 true := fun H5 e5 Q k => ⟨_, rfl, a, x.1, l, rfl, ha4 H5 e5, gx.f, tl, fun z => absurd hl z, fun _ t H6 nt e6 h6 => ⟨rfl, true, rfl, k H6 e6⟩⟩
          refine s_when (b := TL.pre (startL pr) l) (et_is (et_and (a := true) c1 fun _ => et_and c2 fun _ => c3) (by rw [Bool.true_and, Bool.and_true])) (fun hp H5 e5 => ?_) (fun hp H5 e5 => done H5 e5 ?_)
          · refine s_app (e5 _ _ (e4 _ _ hbn)) (ev_var rfl) (ev_var rfl) (by unfold natsV; rw [List.length_map]; omega) fun H6 e6 => ?_
            refine ⟨_, _, rfl, Ex.mut (((e.trans e4).trans e5).trans e6) nb0, ?_⟩
            rw [upd_same, upto_yes (by
              rw [hh]
              unfold hit
              rw [hl, start_pre f.g gx.f.g] at hp
              rw [hx2, hl, decide_eq_true rfl, hp]
              rfl)]
            unfold natsV
            rw [List.map_append]
            rfl
          · rw [hh]
            unfold hit
            rw [hl, start_pre f.g gx.f.g] at hp
            rw [hp, Bool.and_false]
        · have c3 : EvT (tTest (tOp rNotN (tCall (sp__read_row C_Record G) [] E0 (tCons (tVar 6) tNil)) (tC .non))) [some (.ref p), some (.ref o), some (.int (pr.key : Int)), some (.str (S (startL pr))), some (.ref b), some (.int (n : Int)), some (.ref a)] H4 false := fun H5 e5 Q k => ⟨_, rfl, a, x.1, l, rfl, ha4 H5 e5, gx.f, tl, fun _ H6 e6 => ⟨rfl, false, rfl, k H6 e6⟩, fun z => absurd z hl⟩
          refine s_when (b := false) (et_is (et_and (a := true) c1 fun _ => et_and c2 fun _ => c3) (by rw [Bool.true_and, Bool.and_false])) (fun z => nomatch z) fun _ H5 e5 => done H5 e5 ?_
          rw [hh]
          unfold hit
          rw [hx2, decide_eq_false (by intro z; injection z with z; exact hl z)]
          rfl
    · rintro σ' H' ⟨y5, y6, rfl, e, hbn⟩
      rw [hus] at hbn
      refine s_retL (xs := natsV (upto pr xs xs.length).reverse) ?_ fun t H3 nt e3 ht => q t H3 (fresh_back e nt) (e.trans e3) ht
      unfold natsV
      rw [List.map_reverse]
      exact ev_revL (ev_var rfl) (sq_of hbn)
end

/-! ### what the law keeps beside -/
def lnV : Option (List Nat) → V
  | none => .non
  | some l => .str (S l)
def KeptV (CR : Addr) (H : Hp) (b : Addr) (x : Kp) : Prop := ∃ a, H b = some (.lst [.ref a, lnV x.2]) ∧ RcO CR H a x.1
structure Kept (CR : Addr) (H : Hp) (kp : Addr) (bs : List Addr) (xs : List Kp) : Prop where
  k : H kp = some (.lst (bs.map V.ref))
  p : Paired (KeptV CR H) bs xs
theorem Kept.mono {CR : Addr} {H H1 : Hp} {kp : Addr} {bs : List Addr} {xs : List Kp} (h : Kept CR H kp bs xs) (e : Ex H H1) : Kept CR H1 kp bs xs :=
  ⟨e _ _ h.k, Paired.mapP h.p fun _ _ ⟨a, h1, h2⟩ => ⟨a, e _ _ h1, h2.mono e⟩⟩
/-- a list is changed: records, stores and what is kept elsewhere stay -/
def But (H H' : Hp) (l : Addr) : Prop := (∃ ys, H l = some (.lst ys)) ∧ ∀ b o, H b = some o → b ≠ l → H' b = some o
theorem _root_.Kn.Rp.RcO.but {C : Addr} {H H1 : Hp} {p l : Addr} {r : Rc} (h : RcO C H p r) (B : But H H1 l) : RcO C H1 p r := by
  obtain ⟨⟨ys, hl⟩, k⟩ := B
  obtain ⟨dx, o, t, q, as, h1, h2, h3, h4, h5⟩ := h.ex
  have ne : ∀ {b : Addr} {x : HO}, H b = some x → (∀ zs, x ≠ .lst zs) → H1 b = some x := fun hb hz => k _ _ hb (ne_of hb hl (hz _))
  exact ⟨dx, o, t, q, as, ne h1 (fun _ z => nomatch z), ne h2 (fun _ z => nomatch z), ne h3 (fun _ z => nomatch z), Paired.mapP h4 fun _ _ z => ne z (fun _ z => nomatch z), ne h5 (fun _ z => nomatch z)⟩
theorem Sto.but {C : Addr} {H H1 : Hp} {p r l : Addr} {xs : List Kp} (T : Sto C H p r xs) (B : But H H1 l) (hne : r ≠ l) : Sto C H1 p r xs := by
  obtain ⟨⟨ys, hl⟩, k⟩ := B
  obtain ⟨dx, d, us, h1, h2, h3⟩ := T.ex
  exact ⟨dx, d, us, k _ _ h1 (ne_of h1 hl (by intro z; cases z)), k _ _ h2 hne, Paired.mapP h3 fun _ _ z => z.keep fun b zs hb => k _ _ hb (ne_of hb hl (by intro z; cases z))⟩
theorem Kept.but {CR : Addr} {H H1 : Hp} {kp l : Addr} {bs : List Addr} {xs : List Kp} (h : Kept CR H kp bs xs) (B : But H H1 l) (h1 : kp ≠ l) (h2 : l ∉ bs) : Kept CR H1 kp bs xs := by
  refine ⟨B.2 _ _ h.k h1, ?_⟩
  have z : ∀ {as : List Addr} {ys : List Kp}, Paired (KeptV CR H) as ys → (∀ a ∈ as, a ≠ l) → Paired (KeptV CR H1) as ys := fun P => by
    induction P with
    | nil => exact fun _ => .nil
    | cons hd _ ih =>
      intro ha
      obtain ⟨a, e1, e2⟩ := hd
      exact .cons ⟨a, B.2 _ _ e1 (ha _ List.mem_cons_self), e2.but B⟩ (ih fun b hb => ha b (List.mem_cons_of_mem _ hb))
  exact z h.p fun a ha z => h2 (z ▸ ha)
/-- an inner list is changed -/
theorem Kept.set {CR : Addr} {H : Hp} {kp b a : Addr} {bs : List Addr} {xs : List Kp} {j : Nat} {x : Kp} {o : Option (List Nat)} (h : Kept CR H kp bs xs) (hb : bs[j]? = some b) (hx : xs[j]? = some x) (ho : H b = some (.lst [.ref a, lnV x.2])) (hr : RcO CR H a x.1) (nd : bs.Nodup) (hk : kp ∉ bs) :
    Kept CR (L2.upd H b (.lst [.ref a, lnV o])) kp bs (xs.set j (x.1, o)) := by
  have B : But H (L2.upd H b (.lst [.ref a, lnV o])) b := ⟨⟨_, ho⟩, fun c u hc hne => by rw [upd_ne hne]; exact hc⟩
  refine ⟨B.2 _ _ h.k fun z => hk (z ▸ List.mem_of_getElem? hb), ?_⟩
  have z : ∀ {as : List Addr} {ys : List Kp}, Paired (KeptV CR H) as ys → as.Nodup → ∀ (i : Nat), as[i]? = some b → Paired (KeptV CR (L2.upd H b (.lst [.ref a, lnV o]))) as (ys.set i (x.1, o)) := fun P => by
    induction P with
    | nil => exact fun _ i hi => by simp at hi
    | @cons c y cs zs hd tl ih =>
      intro nd i hi
      have ndt := (List.nodup_cons.mp nd).2
      have nc := (List.nodup_cons.mp nd).1
      cases i with
      | zero =>
        simp at hi
        subst hi
        refine .cons ⟨a, upd_same, hr.but B⟩ ?_
        have rest : ∀ {as : List Addr} {ys : List Kp}, Paired (KeptV CR H) as ys → (∀ q ∈ as, q ≠ c) → Paired (KeptV CR (L2.upd H c (.lst [.ref a, lnV o]))) as ys := fun P => by
          induction P with
          | nil => exact fun _ => .nil
          | cons hd _ ih2 =>
            intro ha
            obtain ⟨a2, e1, e2⟩ := hd
            exact .cons ⟨a2, B.2 _ _ e1 (ha _ List.mem_cons_self), e2.but B⟩ (ih2 fun q hq => ha q (List.mem_cons_of_mem _ hq))
        exact rest tl fun q hq z => nc (z ▸ hq)
      | succ i =>
        simp at hi
        obtain ⟨a2, e1, e2⟩ := hd
        exact .cons ⟨a2, B.2 _ _ e1 (fun z => nc (z ▸ List.mem_of_getElem? hi)), e2.but B⟩ (ih ndt i hi)
  exact z h.p nd j hb
theorem eqvAll_strs : ∀ (as bs : List (List Nat)), PyData.eqvAll (as.map fun l => .str (S l)) (bs.map fun l => .str (S l)) = decide (as = bs)
  | [], [] => rfl
  | [], b :: t => rfl
  | a :: r, [] => rfl
  | a :: r, b :: t => by
    show (PyData.eqv (.str (S a)) (.str (S b)) && PyData.eqvAll (r.map fun l => .str (S l)) (t.map fun l => .str (S l))) = _
    rw [eqv_str, eqvAll_strs r t, Bool.eq_iff_iff, Bool.and_eq_true, decide_eq_true_eq, decide_eq_true_eq, decide_eq_true_eq, List.cons.injEq]
theorem eqv_tup {as bs : List (List Nat)} : PyData.eqv (.tuple (as.map fun l => .str (S l))) (.tuple (bs.map fun l => .str (S l))) = decide (as = bs) := eqvAll_strs as bs
section
variable {P : Program} {w : World} {K : PySem.W.Frag} {mg : Str → Option Value} {base : Heap}
theorem rv_isN {H : Hp} {x : V} : RV rIsN x .non H (.bl (decide (x = .non))) := fun H1 _ Q q => ⟨rfl, q H1 (Ex.refl H1)⟩
theorem rv_notN {H : Hp} {x : V} : RV rNotN x .non H (.bl (!decide (x = .non))) := fun H1 _ Q q => ⟨rfl, q H1 (Ex.refl H1)⟩
theorem Kept.len {CR : Addr} {H : Hp} {kp : Addr} {bs : List Addr} {xs : List Kp} (h : Kept CR H kp bs xs) : bs.length = xs.length := Paired.length h.p
theorem Kept.evlen {CR : Addr} {H : Hp} {kp : Addr} {bs : List Addr} {xs : List Kp} {σ : L2.St} {te : TE} (h : Kept CR H kp bs xs) (he : Ev te σ H (.ref kp)) : Ev (tCB (rLenS K) (tCons te tNil)) σ H (.int (xs.length : Int)) := ev_is (ev_len he (sq_of h.k)) (by rw [List.length_map, h.len])
theorem Kept.at_ {CR : Addr} {H : Hp} {kp : Addr} {bs : List Addr} {xs : List Kp} (h : Kept CR H kp bs xs) {j : Nat} {x : Kp} (hx : xs[j]? = some x) : ∃ b a, bs[j]? = some b ∧ H b = some (.lst [.ref a, lnV x.2]) ∧ RcO CR H a x.1 ∧
    ∀ {σ : L2.St} {H1 : Hp} {ta tb : TE} {i : Int}, Ex H H1 → i = (j : Int) → Ev ta σ H1 (.ref kp) → Ev tb σ H1 (.int i) → Ev (tOp (rIxL K) ta tb) σ H1 (.ref b) ∧ Ev (tOp (rIxL K) (tOp (rIxL K) ta tb) (tC (.int 0))) σ H1 (.ref a) ∧ Ev (tOp (rIxL K) (tOp (rIxL K) ta tb) (tC (.int 1))) σ H1 (lnV x.2) := by
  obtain ⟨b, hb, a, h1, h2⟩ := pair_at h.p hx
  refine ⟨b, a, hb, h1, h2, fun {σ H1 ta tb i} e hi ha hbb => ?_⟩
  have z : Ev (tOp (rIxL K) ta tb) σ H1 (.ref b) := ev_op ha hbb (rv_ixL (sq_of (e _ _ h.k)) (atI_nat' hi (by rw [List.getElem?_map, hb]; rfl)))
  exact ⟨z, ev_op z ev_c (rv_ixL (sq_of (e _ _ h1)) (atI_nat (j := 0) rfl)), ev_op z ev_c (rv_ixL (sq_of (e _ _ h1)) (atI_nat (j := 1) rfl))⟩
def sp__law_one (C CR : Addr) (_ : Gx K mg) : Sp := fun vs H Q _ => ∃ (p r kp : Addr) (i : Int) (bs : List Addr) (xs : List Kp), vs = [.ref p, .ref kp, .int i] ∧ Sto C H p r xs ∧ Kept CR H kp bs xs ∧ (∀ x ∈ xs, GKp x) ∧ (-1 ≤ i ∧ i ≤ 1000) ∧ Rt H (.bl true) Q
theorem ok__law_one {f : Addr} {C_Store C_Record : Addr} {fd : FuncData} (F : Fun K "_law_one" "_law_one" s__law_one f fd) (T : Tx mg) (G : Gx K mg) (TC_Store : Tc_Store K C_Store) (TC_Record : Tc_Record K C_Record) (M_Store_record : Kn.MtXN P w K mg base 9 C_Store "record" (sp_Store_record C_Store C_Record G)) (C_format_record : Kn.Cl P w K mg base 3 "format_record" (sp_format_record C_Record K)) (M_Record___eq__ : Kn.Mt P w K mg base 1 C_Record "__eq__" (sp_Record___eq__ C_Record K)) (H_format_record : Kn.ClH P w K mg base 3 "format_record" (sp_format_record C_Record K)) : FnOk P w K mg base CX0 10 f fd ["store", "kept", "index"] (sp__law_one C_Store C_Record G) := by
  refine F.ok sc__law_one (fun vs H Q E h => ?_) (fun cdv A outer s H vs Q E hr h => ?_)
  · obtain ⟨p, r, kp, i, bs, xs, rfl, _⟩ := h
    rfl
  · obtain ⟨p, r, kp, i, bs, xs, rfl, T0, k0, hg, hi, q⟩ := h
    refine ⟨_, (pss_cons (Kn.ps_try_manyN (i := 4) (tb := fun W => (tAsg (tMethX C_Store "record" (sp_Store_record C_Store C_Record G) (WE W) (tVar 0) (tCons (tVar 2) tNil)) (gName 3))) (Wout := (fun _ _ _ _ => False)) rfl rfl sc__law_one.nd rfl rfl Kn.takes0N
      (fun W pn xe tk po => (pss_one (ps_set (i := 3) sc__law_one.nd rfl (Or.inl rfl) (Kn.pe_mtXN M_Store_record hr (by decide) tk (pv 0) (pa_cons (pv 2) pa_nil)))))
      (.cons (ts := fun a cls d => (tRet (tAndV (tOp rEq (tXf a cls d G.c_NoSuchRecord "index" (tVar 4)) (tVar 2)) (tOrV (tNotV (tChain (rI0 fun i j => .bl (decide (i ≤ j))) (rI0 fun i j => .bl (decide (i < j))) (tC (.int 0)) (tVar 2) (tCB (rLenS K) (tCons (tVar 1) tNil)))) (tOp rIsN (tOp (rIxL K) (tOp (rIxL K) (tVar 1) (tVar 2)) (tC (.int 1))) (tC .non)))))) ⟨rfl, by decide, Or.inl G.g_NoSuchRecord⟩ (fun a oe cls d pn hz hf => (pss_one (ps_ret (pe_and (pe_cmpR op_eq (pe_xf G.x_NoSuchRecord.xf G.n_NoSuchRecord_index hz.zc hf (pv 4)) (pv 2) (nomark _)) (pe_one (pe_or (pe_not (pe_chain op_le op_lt pe_int (pv 2) (pe_callB Kn.cr_lenSeq (by rfl) T.b_len PySem.boot_len (pa_cons (pv 1) pa_nil)))) (pe_one (pe_cmpR op_isN1 (pe_ix ix_list (pe_ix ix_list (pv 1) (pv 2) (fun _ _ => rfl)) pe_int (fun _ _ => rfl)) pe_non (nomark _)))))))))
      (.cons (ts := fun a cls d => (tRet (tAndV (tOp rEq (tXf a cls d G.c_DamagedRecord "index" (tVar 4)) (tVar 2)) (tAndV (tChain (rI0 fun i j => .bl (decide (i ≤ j))) (rI0 fun i j => .bl (decide (i < j))) (tC (.int 0)) (tVar 2) (tCB (rLenS K) (tCons (tVar 1) tNil))) (tOp (rIn K true) (tOp (rIxL K) (tOp (rIxL K) (tVar 1) (tVar 2)) (tC (.int 1))) (tTup (tCons (tC .non) (tCons (tCall (sp_format_record C_Record K) [] E0 (tCons (tOp (rIxL K) (tOp (rIxL K) (tVar 1) (tVar 2)) (tC (.int 0))) tNil)) tNil)))))))) ⟨rfl, by decide, Or.inl G.g_DamagedRecord⟩ (fun a oe cls d pn hz hf => (pss_one (ps_ret (pe_and (pe_cmpR op_eq (pe_xf G.x_DamagedRecord.xf G.n_DamagedRecord_index hz.zc hf (pv 4)) (pv 2) (nomark _)) (pe_and (pe_chain op_le op_lt pe_int (pv 2) (pe_callB Kn.cr_lenSeq (by rfl) T.b_len PySem.boot_len (pa_cons (pv 1) pa_nil))) (pe_one (pe_cmpR op_notIn_seq (pe_ix ix_list (pe_ix ix_list (pv 1) (pv 2) (fun _ _ => rfl)) pe_int (fun _ _ => rfl)) (pe_tup (pa_cons pe_non (pa_cons (Kn.pe_clH H_format_record (Kn.room_suite hr) (by decide) (Kn.hot_suite hz hf) (by rfl) (pa_cons (pe_ix ix_list (pe_ix ix_list (pv 1) (pv 2) (fun _ _ => rfl)) pe_int (fun _ _ => rfl)) pa_nil)) pa_nil))) rfl)))))))
      .nil)))
      (pss_one (ps_ret (pe_and (pe_chain op_le op_lt pe_int (pv 2) (pe_callB Kn.cr_lenSeq (by rfl) T.b_len PySem.boot_len (pa_cons (pv 1) pa_nil))) (pe_and (pe_cmpR op_eq (pe_ix ix_list (pe_ix ix_list (pv 1) (pv 2) (fun _ _ => rfl)) pe_int (fun _ _ => rfl)) (Kn.pe_cl C_format_record hr (by decide) (by rfl) (pa_cons (pe_ix ix_list (pe_ix ix_list (pv 1) (pv 2) (fun _ _ => rfl)) pe_int (fun _ _ => rfl)) pa_nil)) (nomark _)) (pe_one (pe_cmpR (L2.op_eqG (My.rc_mt M_Record___eq__) (hr.mono (by decide))) (pv 3) (pe_ix ix_list (pe_ix ix_list (pv 1) (pv 2) (fun _ _ => rfl)) pe_int (fun _ _ => rfl)) (nomark _)))))))), ?_⟩
    obtain ⟨dx, d, us, h1, h2, h3⟩ := T0.ex
    refine ⟨_, rfl, p, dx, _, rfl, h1, fld_no d r (by decide +kernel) (by decide +kernel) (by decide +kernel), ?_⟩
    refine ea_cons (ev_var rfl) ea_nil H (Ex.refl _) _ fun H1 e1 => ?_
    refine ⟨p, r, i, xs, rfl, T0.mono e1, hg, hi, fun hn dd H2 e2 hdd => ?_, fun j x l hij hx hxl => ⟨fun hne dd H2 e2 hdd => ?_, fun heq b H2 nb e2 hb => ?_⟩⟩
    · refine many_hit G.x_NoSuchRecord.me fun ex nex => ?_
      have e02 := e1.trans e2
      have k2 := k0.mono e02
      refine s_ret (v := .bl true) (ev_is (ev_andV (a := true) (b := true) (ev_is (ev_op (ev_xf rfl hdd rfl) (ev_var rfl) rv_eqI) (by rw [decide_eq_true rfl])) fun _ => ?_) rfl) fun H3 e3 => q H3 (e02.trans e3)
      by_cases hr2 : 0 ≤ i ∧ i < (xs.length : Int)
      · have hj : i.toNat < xs.length := by omega
        have hx := List.getElem?_eq_getElem hj
        obtain ⟨b, a, hb, _, _, hev⟩ := Kept.at_ (K := K) k2 hx
        have hz := line_at hx
        rw [show ((i.toNat : Nat) : Int) = i by omega, hn] at hz
        refine ev_is (ev_orV (a := false) (b := true) (ev_is (ev_notV (ev_chain ev_c (ev_var rfl) rv_le (k2.evlen (ev_var rfl)) rv_lt)) (by rw [decide_eq_true hr2.1, decide_eq_true hr2.2]; rfl)) fun _ => ev_is (ev_op (hev (Ex.refl _) (by omega) (ev_var rfl) (ev_var rfl)).2.2 ev_c rv_isN) (by rw [← hz]; rfl)) rfl
      · refine ev_is (ev_orV (a := true) (b := true) (ev_is (ev_notV (ev_chain ev_c (ev_var rfl) rv_le (k2.evlen (ev_var rfl)) rv_lt)) ?_) fun z => nomatch z) rfl
        congr 1
        rw [Bool.not_eq_true', Bool.and_eq_false_iff, decide_eq_false_iff_not, decide_eq_false_iff_not]
        omega
    · refine many_skip G.m_DamagedRecord_NoSuchRecord (many_hit G.x_DamagedRecord.me fun ex nex => ?_)
      have e02 := e1.trans e2
      have k2 := k0.mono e02
      have gx := hg x (List.mem_of_getElem? hx)
      have hj := (List.getElem?_eq_some_iff.mp hx).1
      obtain ⟨b, a, hb, _, ha, hev⟩ := Kept.at_ (K := K) k2 hx
      refine s_ret (v := .bl true) (ev_is (ev_andV (a := true) (b := true) (ev_is (ev_op (ev_xf rfl hdd rfl) (ev_var rfl) rv_eqI) (by rw [decide_eq_true rfl])) fun _ => ev_is (ev_andV (a := true) (b := true) (ev_is (ev_chain ev_c (ev_var rfl) rv_le (k2.evlen (ev_var rfl)) rv_lt) (by rw [decide_eq_true (by omega), decide_eq_true (by omega)]; rfl)) fun _ => ?_) rfl) rfl) fun H3 e3 => q H3 (e02.trans e3)
      have hv := (hev (σ := [some (.ref p), some (.ref kp), some (.int i), none, some (.ref ex)]) (ta := tVar 1) (tb := tVar 2) (Ex.refl _) hij (ev_var rfl) (ev_var rfl))
      rw [hxl] at hv
      refine ev_is (ev_niU hv.2.2 (eu_tup (ea_cons ev_c (ea_cons (ev_c2 (a := a) (b := x.1) (ea_cons hv.2.1 ea_nil) fun _ e => ⟨ha.mono e, gx.f⟩) ea_nil)) (by show 2 ≤ 100000; decide)) rfl rfl) ?_
      congr 1
      show (!(eqV .non (.str (S l)) || (eqV (.str (S (fmtRc x.1))) (.str (S l)) || false))) = true
      have e : eqV (.str (S (fmtRc x.1))) (.str (S l)) = false := by
        show (S (fmtRc x.1) == S l) = false
        exact beq_eq_false_iff_ne.mpr fun z => hne (S_inj z).symm
      rw [e]
      rfl
    · have e02 := e1.trans e2
      have k2 := k0.mono e02
      have gx := hg x (List.mem_of_getElem? hx)
      have hj := (List.getElem?_eq_some_iff.mp hx).1
      obtain ⟨bb, a, hbb, _, ha, hev⟩ := Kept.at_ (K := K) k2 hx
      have hv := (hev (σ := [some (.ref p), some (.ref kp), some (.int i), some (.ref b), none]) (ta := tVar 1) (tb := tVar 2) (Ex.refl _) hij (ev_var rfl) (ev_var rfl))
      rw [hxl] at hv
      refine s_ret (v := .bl true) (ev_is (ev_andV (a := true) (b := true) (ev_is (ev_chain ev_c (ev_var rfl) rv_le (k2.evlen (ev_var rfl)) rv_lt) (by rw [decide_eq_true (by omega), decide_eq_true (by omega)]; rfl)) fun _ => ev_is (ev_andV (a := true) (b := true) (ev_is (ev_op hv.2.2 (ev_c2 (a := a) (b := x.1) (ea_cons hv.2.1 ea_nil) fun _ e => ⟨ha.mono e, gx.f⟩) rv_eqS) (by rw [decide_eq_true heq])) fun _ => ev_op (ev_var rfl) hv.2.1 (fun H3 e3 Q k => ?_)) rfl) rfl) fun H3 e3 => q H3 (e02.trans e3)
      obtain ⟨dx1, _, _, _, _, z1, _⟩ := (hb.mono e3).ex
      obtain ⟨dx2, _, _, _, _, z2, _⟩ := (ha.mono e3).ex
      exact ⟨⟨b, a, dx1, dx2, _, _, rfl, rfl, z1, z2, x.1, hb.mono e3, ha.mono e3, gx.f⟩, fun H4 e4 => k H4 e4⟩
/-! ### what is found -/
def dn (pr : Rc) (xs : List Kp) (i : Nat) : List Nat := ((List.range i).map fun k => xs.length - 1 - k).filter (hitAt pr xs)
theorem dn_yes {pr : Rc} {xs : List Kp} {i : Nat} (h : hitAt pr xs (xs.length - 1 - i) = true) : dn pr xs (i + 1) = dn pr xs i ++ [xs.length - 1 - i] := by
  unfold dn
  rw [List.range_succ, List.map_append, List.filter_append]
  show _ ++ List.filter (hitAt pr xs) [xs.length - 1 - i] = _
  rw [List.filter_cons, if_pos h]
  rfl
theorem dn_no {pr : Rc} {xs : List Kp} {i : Nat} (h : hitAt pr xs (xs.length - 1 - i) = false) : dn pr xs (i + 1) = dn pr xs i := by
  unfold dn
  rw [List.range_succ, List.map_append, List.filter_append]
  show _ ++ List.filter (hitAt pr xs) [xs.length - 1 - i] = _
  rw [List.filter_cons, if_neg (by rw [h]; decide)]
  show _ ++ [] = _
  rw [List.append_nil]
theorem dn_len (pr : Rc) (xs : List Kp) (i : Nat) : (dn pr xs i).length ≤ i := by
  unfold dn
  have := List.length_filter_le (hitAt pr xs) ((List.range i).map fun k => xs.length - 1 - k)
  rw [List.length_map, List.length_range] at this
  exact this
theorem dn_full (pr : Rc) (xs : List Kp) : dn pr xs xs.length = (upto pr xs xs.length).reverse := by
  unfold dn upto
  rw [← List.filter_reverse]
  congr 1
  apply List.ext_getElem
  · simp
  · intro i h1 h2
    simp
def sp__law_found (C CR : Addr) (_ : Gx K mg) : Sp := fun vs H Q _ => ∃ (p r kp a : Addr) (pr : Rc) (bs : List Addr) (xs : List Kp), vs = [.ref p, .ref kp, .ref a] ∧ Sto C H p r xs ∧ Kept CR H kp bs xs ∧ (∀ x ∈ xs, GKp x) ∧ xs.length < 1000 ∧ RcO CR H a pr ∧ Fn pr ∧ Rt H (.bl true) Q
theorem ok__law_found {f : Addr} {C_Store C_Record : Addr} {fd : FuncData} (F : Fun K "_law_found" "_law_found" s__law_found f fd) (T : Tx mg) (G : Gx K mg) (TC_Store : Tc_Store K C_Store) (TC_Record : Tc_Record K C_Record) (C_format_record : Kn.Cl P w K mg base 3 "format_record" (sp_format_record C_Record K)) (M_Store_find_records : Kn.Mt P w K mg base 9 C_Store "find_records" (sp_Store_find_records C_Store C_Record K)) : FnOk P w K mg base CX0 10 f fd ["store", "kept", "probe"] (sp__law_found C_Store C_Record G) := by
  refine F.ok sc__law_found (fun vs H Q E h => ?_) (fun cdv A outer s H vs Q E hr h => ?_)
  · obtain ⟨p, r, kp, a, pr, bs, xs, rfl, _⟩ := h
    rfl
  · obtain ⟨p, r, kp, a, pr, bs, xs, rfl, T0, k0, hg, hlen, hpa, f, q⟩ := h
    refine ⟨_, (pss_cons (ps_set (i := 3) sc__law_found.nd rfl (Or.inl rfl) (pe_lst pa_nil))
      (pss_cons (ps_for PassesOwn.never rfl (pi_range1 rfl T.b_range (pa_cons (pe_callB Kn.cr_lenSeq (by rfl) T.b_len PySem.boot_len (pa_cons (pv 1) pa_nil)) pa_nil)) (pg_name (i := 4) sc__law_found.nd rfl (Or.inl rfl)) (pss_cons (ps_set (i := 5) sc__law_found.nd rfl (Or.inl rfl) (pe_op op_sub (pe_op op_sub (pe_callB Kn.cr_lenSeq (by rfl) T.b_len PySem.boot_len (pa_cons (pv 1) pa_nil)) pe_int) (pv 4)))
      (pss_cons (ps_set (i := 6) sc__law_found.nd rfl (Or.inl rfl) (pe_ix ix_list (pe_ix ix_list (pv 1) (pv 5) (fun _ _ => rfl)) pe_int (fun _ _ => rfl)))
      (pss_cons (ps_set (i := 7) sc__law_found.nd rfl (Or.inl rfl) (pe_cmpR op_eq (pe_ix ix_list (pe_ix ix_list (pv 1) (pv 5) (fun _ _ => rfl)) pe_int (fun _ _ => rfl)) (Kn.pe_cl C_format_record hr (by decide) (by rfl) (pa_cons (pv 6) pa_nil)) (nomark _)))
      (pss_one (ps_if (PW.pt (pw_and (pt_val (pv 7)) (pw_and (pt_cmpR (op_eqD hr.units) (pe_fld (pv 6) rfl) (pe_fld (pv 2) rfl) (nomark _)) (pw_and1 (pt_cmpR op_eq (pe_fld (pv 6) rfl) (pe_fld (pv 2) rfl) (nomark _)))))) (pss_one (ps_expr (pe_bm PySem.F.plainAttrs_list PySem.F.slot_list_append PySem.F.type_list_append mt_append (pv 3) (pa_cons (pv 5) pa_nil)))) pss_nil))))))
      (pss_cons (ps_set (i := 8) sc__law_found.nd rfl (Or.inl rfl) (Kn.pe_mt M_Store_find_records hr (by decide) (pv 0) (pa_cons (pe_fld (pv 2) rfl) (pa_cons (pe_fld (pv 2) rfl) pa_nil))))
      (pss_one (ps_ret (pe_and (pe_callB Kn.cr_isi (by rfl) T.b_isinstance (by decide +kernel) (pa_cons (pv 8) (pa_cons (pe_bltn (v := .ty "list") (by rfl) T.b_list (by decide +kernel) rfl) pa_nil))) (pe_one (pe_cmpR (op_eqD hr.units) (pv 8) (pv 3) (nomark _))))))))), ?_⟩
    refine q_asgL (xs := natsV (dn pr xs 0)) (el_lst ea_nil (by show 0 ≤ 100000; decide)) fun b H1 nb e1 hb => ?_
    refine q_forR1 (n := (xs.length : Int)) (ea_cons ((k0.mono e1).evlen (ev_var rfl)) ea_nil) (by omega) (fun i σ' H' => ∃ y4 y5 y6 y7 y8, σ' = [some (.ref p), some (.ref kp), some (.ref a), some (.ref b), y4, y5, y6, y7, y8] ∧ Ex H H' ∧ H' b = some (.lst (natsV (dn pr xs i)))) (fun H2 e2 => ⟨_, _, _, _, _, rfl, e1.trans e2, e2 _ _ hb⟩) ?_ ?_
    · rintro i σ' H' hi ⟨y4, y5, y6, y7, y8, rfl, e, hbi⟩
      have kH := k0.mono e
      have pH := hpa.mono e
      have hj : xs.length - 1 - i < xs.length := by omega
      have hx := List.getElem?_eq_getElem hj
      obtain ⟨bb, ra, hbb, hb1, hra, hev⟩ := Kept.at_ (K := K) kH hx
      have gx := hg _ (List.getElem_mem hj)
      have hh : hitAt pr xs (xs.length - 1 - i) = hit pr xs[xs.length - 1 - i] := by unfold hitAt; rw [hx]; rfl
      generalize xs[xs.length - 1 - i] = x at hx hb1 hra hev gx hh
      refine q_asg (v := .int ((xs.length - 1 - i : Nat) : Int)) (ev_is (ev_op (ev_op (kH.evlen (ev_var rfl)) ev_c rv_I0) (ev_var rfl) rv_I0) (by congr 1; omega)) fun H2 e2 => ?_
      refine q_asg (hev e2 rfl (ev_var rfl) (ev_var rfl)).2.1 fun H3 e3 => ?_
      refine q_asg (v := .bl (decide (x.2 = some (fmtRc x.1)))) (ev_is (ev_op (hev (e2.trans e3) rfl (ev_var rfl) (ev_var rfl)).2.2 (ev_c2 (a := ra) (b := x.1) (ea_cons (ev_var rfl) ea_nil) fun _ e => ⟨((hra.mono e2).mono e3).mono e, gx.f⟩) (rv_eq (by cases x.2 <;> rfl))) ?_) fun H4 e4 => ?_
      · congr 1
        rw [decide_eq_decide]
        cases x.2 with
        | none => exact ⟨fun z => (by cases z), fun z => (by cases z)⟩
        | some l => exact ⟨fun z => by injection z with z; rw [S_inj z], fun z => by injection z with z; rw [z]; rfl⟩
      · have e24 := (e2.trans e3).trans e4
        obtain ⟨dx1, o1, t1, u1, as1, m1, m2, _, _, _⟩ := (hra.mono e24).ex
        obtain ⟨dx2, o2, t2, u2, as2, n1, n2, _, _, _⟩ := (pH.mono e24).ex
        have cl := TC_Record.cl
        have sh1 := shaped_strsT gx.f.out.2
        have sh2 := shaped_strsT f.out.2
        have hdl := dn_len pr xs i
        refine s_if (b := hit pr x) (et_and (a := decide (x.2 = some (fmtRc x.1))) (et_B (ev_var rfl)) fun _ => et_and (a := decide (x.1.outs = pr.outs)) (et_is (et_test (ev_eqD (evd_of (ev_fld (ev_var rfl) m1 cl TC_Record.na_outputs (fr_o o1 x.1.key t1 u1)) (.tup m2 (dta_strs _))) (evd_of (ev_fld (ev_var rfl) n1 cl TC_Record.na_outputs (fr_o o2 pr.key t2 u2)) (.tup n2 (dta_strs _))) sh1 sh2)) eqv_tup) fun _ => et_is (et_test (ev_op (ev_fld (ev_var rfl) m1 cl TC_Record.na_rule_key (fr_k o1 x.1.key t1 u1)) (ev_fld (ev_var rfl) n1 cl TC_Record.na_rule_key (fr_k o2 pr.key t2 u2)) rv_eqI)) (by rw [decide_eq_decide]; omega)) (fun hb2 H5 e5 => ?_) (fun hb2 H5 e5 => ?_)
        · refine s_app (e5 _ _ (e24 _ _ hbi)) (ev_var rfl) (ev_var rfl) (by unfold natsV; rw [List.length_map]; omega) fun H6 e6 => ?_
          refine ⟨_, _, _, _, _, rfl, Ex.mut (((e.trans e24).trans e5).trans e6) nb, ?_⟩
          rw [upd_same, dn_yes (hh.trans hb2)]
          unfold natsV
          rw [List.map_append]
          rfl
        · exact ⟨_, _, _, _, _, rfl, (e.trans e24).trans e5, by rw [dn_no (hh.trans hb2)]; exact e5 _ _ (e24 _ _ hbi)⟩
    · rintro σ' H' ⟨y4, y5, y6, y7, y8, rfl, e, hbi⟩
      rw [Int.toNat_natCast, dn_full] at hbi
      obtain ⟨dx, d, us, h1, h2, h3⟩ := (T0.mono e).ex
      obtain ⟨dx2, o2, t2, u2, as2, n1, n2, _, _, _⟩ := (hpa.mono e).ex
      have cl := TC_Record.cl
      refine ⟨_, rfl, p, dx, _, rfl, h1, fld_no d r (by decide +kernel) (by decide +kernel) (by decide +kernel), ?_⟩
      refine ea_cons (ev_fld (ev_var rfl) n1 cl TC_Record.na_outputs (fr_o o2 pr.key t2 u2)) (ea_cons (ev_fld (ev_var rfl) n1 cl TC_Record.na_rule_key (fr_k o2 pr.key t2 u2)) ea_nil) H' (Ex.refl _) _ fun H2 e2 => ?_
      refine ⟨p, r, o2, pr, xs, rfl, (T0.mono e).mono e2, hg, hlen, e2 _ _ n2, f, fun tl H3 ntl e3 htl => ?_⟩
      have hsh := shaped_ints ((upto pr xs xs.length).reverse.map fun n : Nat => (n : Int))
      have hd : ∀ (H' : Hp) (p : Addr), H' p = some (.lst (natsV (upto pr xs xs.length).reverse)) → Dt H' (.ref p) (.list (((upto pr xs xs.length).reverse.map fun n : Nat => (n : Int)).map .int)) := fun H' p hp => .lst hp (by
        have z := dta_ints (H := H') ((upto pr xs xs.length).reverse.map fun n : Nat => (n : Int))
        rw [List.map_map] at z
        exact z)
      refine s_ret (v := .bl true) (ev_is (ev_andV (a := true) (b := true) (ev_isiL (ev_var rfl) htl) fun _ => ev_is (ev_eqD (evd_of (ev_var rfl) (hd _ _ htl)) (evd_of (ev_var rfl) (hd _ _ (e3 _ _ (e2 _ _ hbi)))) hsh hsh) (by rw [eqv_self hsh])) rfl) fun H4 e4 => q H4 (((e.trans e2).trans e3).trans e4)
end

--SPLIT
section
variable {P : Program} {w : World} {K : PySem.W.Frag} {mg : Str → Option Value} {base : Heap}
/-- objects that are none of r and bs stay -/
def KeepX (H H' : Hp) (r : Addr) (bs : List Addr) : Prop := ∀ b o, H b = some o → b ≠ r → b ∉ bs → H' b = some o
theorem KeepX.of {H H1 : Hp} {r : Addr} {bs : List Addr} (e : Ex H H1) : KeepX H H1 r bs := fun b o hb _ _ => e _ _ hb
theorem KeepX.trans {H H1 H2 : Hp} {r : Addr} {bs : List Addr} (h : KeepX H H1 r bs) (k : KeepX H1 H2 r bs) : KeepX H H2 r bs := fun b o hb n1 n2 => k _ _ (h _ _ hb n1 n2) n1 n2
theorem Keeps.x {H H1 : Hp} {r : Addr} {bs : List Addr} (h : Keeps H H1 r) : KeepX H H1 r bs := fun b o hb n1 _ => h _ _ hb n1
structure Lsts (H : Hp) (r : Addr) (bs : List Addr) : Prop where
  r : ∃ ys, H r = some (.lst ys)
  b : ∀ b ∈ bs, ∃ ys, H b = some (.lst ys)
theorem Lsts.no {H : Hp} {r : Addr} {bs : List Addr} (h : Lsts H r bs) {b : Addr} {o : HO} (hb : H b = some o) (ho : ∀ ys, o ≠ .lst ys) : b ≠ r ∧ b ∉ bs := by
  obtain ⟨ys, hr⟩ := h.r
  refine ⟨ne_of hb hr (ho _), fun z => ?_⟩
  obtain ⟨zs, hz⟩ := h.b b z
  rw [hb] at hz
  exact ho zs (Option.some.inj hz)
theorem RcO.keepX {C : Addr} {H H1 : Hp} {a r : Addr} {bs : List Addr} {rc : Rc} (h : RcO C H a rc) (k : KeepX H H1 r bs) (l : Lsts H r bs) : RcO C H1 a rc := by
  obtain ⟨dx', o, t, u, as, h1, h2, h3, h4, h5⟩ := h.ex
  have g : ∀ {b : Addr} {o : HO}, H b = some o → (∀ ys, o ≠ .lst ys) → H1 b = some o := fun hb ho => k _ _ hb (l.no hb ho).1 (l.no hb ho).2
  exact ⟨dx', o, t, u, as, g h1 (fun _ z => nomatch z), g h2 (fun _ z => nomatch z), g h3 (fun _ z => nomatch z), Paired.mapP h4 fun _ _ z => g z (fun _ z => nomatch z), g h5 (fun _ z => nomatch z)⟩
theorem Sto.keepX {C : Addr} {H H1 : Hp} {p r2 r : Addr} {bs : List Addr} {xs : List Kp} (T : Sto C H p r2 xs) (k : KeepX H H1 r bs) (l : Lsts H r bs) (n1 : r2 ≠ r) (n2 : r2 ∉ bs) : Sto C H1 p r2 xs := by
  obtain ⟨dx, d, us, h1, h2, h3⟩ := T.ex
  have g : ∀ {b : Addr} {o : HO}, H b = some o → (∀ ys, o ≠ .lst ys) → H1 b = some o := fun hb ho => k _ _ hb (l.no hb ho).1 (l.no hb ho).2
  exact ⟨dx, d, us, g h1 (fun _ z => nomatch z), k _ _ h2 n1 n2, Paired.mapP h3 fun _ _ z => z.keep fun b zs hb => g hb fun _ z => nomatch z⟩
theorem ev_there {σ : L2.St} {H : Hp} {CR kp : Addr} {bs : List Addr} {xs : List Kp} {i : Int} (k : Kept CR H kp bs xs) (h1 : σ[1]? = some (some (.ref kp))) (h3 : σ[3]? = some (some (.int i))) :
    Ev (tAndV (tChain (rI0 fun i j => .bl (decide (i ≤ j))) (rI0 fun i j => .bl (decide (i < j))) (tC (.int 0)) (tVar 3) (tCB (rLenS K) (tCons (tVar 1) tNil))) (tOp rNotN (tOp (rIxL K) (tOp (rIxL K) (tVar 1) (tVar 3)) (tC (.int 1))) (tC .non))) σ H (.bl (lineAt xs i).isSome) := by
  by_cases hr2 : 0 ≤ i ∧ i < (xs.length : Int)
  · have hj : i.toNat < xs.length := by omega
    have hx := List.getElem?_eq_getElem hj
    obtain ⟨b, a, hb, _, _, hev⟩ := Kept.at_ (K := K) k hx
    have hz := line_at hx
    rw [show ((i.toNat : Nat) : Int) = i by omega] at hz
    rw [hz]
    generalize xs[i.toNat] = x at hev
    refine ev_is (ev_andV (a := true) (b := x.2.isSome) (ev_is (ev_chain ev_c (ev_var h3) rv_le (k.evlen (ev_var h1)) rv_lt) (by rw [decide_eq_true hr2.1, decide_eq_true hr2.2]; rfl)) fun _ => ev_is (ev_op (hev (Ex.refl _) (by omega) (ev_var h1) (ev_var h3)).2.2 ev_c rv_notN) (by cases x.2 <;> rfl)) (by rw [Bool.true_and])
  · have hz : lineAt xs i = none := by
      unfold lineAt
      split
      · rw [List.getElem?_eq_none (by omega)]
        rfl
      · rfl
    rw [hz]
    refine ev_is (ev_andV (a := false) (b := true) (ev_is (ev_chain ev_c (ev_var h3) rv_le (k.evlen (ev_var h1)) rv_lt) ?_) fun z => nomatch z) rfl
    congr 1
    rw [Bool.and_eq_false_iff, decide_eq_false_iff_not, decide_eq_false_iff_not]
    omega
theorem q_ifFin {σ : L2.St} {H : Hp} {D : Ends} {tz tu : TS} {tc : TT} {b : Bool} (h : EvT tc σ H b) (Fin : L2.St → Hp → Prop) (h1 : ∀ Tz : L2.St → Hp → Prop, (∀ σ H, Fin σ H → Tz σ H) → b = true → ∀ H1, Ex H H1 → tu { D with nx := Tz } σ H1) (h2 : b = false → ∀ H1, Ex H H1 → Fin σ H1) (hd : ∀ σ' H', Fin σ' H' → tz D σ' H') : tSeq (tIfS tc tu tNext) tz D σ H :=
  q_when h (fun hb H1 e => h1 (tz D) hd hb H1 e) fun hb H1 e => hd _ _ (h2 hb H1 e)
theorem q_tryIf {σ : L2.St} {H : Hp} {D : Ends} {tz : TS} {tc : TT} {A B : Ends → TS} {b : Bool} (h : EvT tc σ H b) (Fin : L2.St → Hp → Prop) (h1 : ∀ D' : Ends, D'.rt = D.rt → (∀ σ H, Fin σ H → D'.nx σ H) → b = true → ∀ H1, Ex H H1 → A D' D' σ H1) (h2 : ∀ D' : Ends, D'.rt = D.rt → (∀ σ H, Fin σ H → D'.nx σ H) → b = false → ∀ H1, Ex H H1 → B D' D' σ H1)
    (hd : ∀ σ' H', Fin σ' H' → tz D σ' H') : tSeq (fun D σ H => tIfS tc (A D) (B D) D σ H) tz D σ H :=
  s_if (D := { D with nx := tz D }) (tu := A { D with nx := tz D }) (tw := B { D with nx := tz D }) h (fun hb H1 e => h1 { D with nx := tz D } rfl hd hb H1 e) (fun hb H1 e => h2 { D with nx := tz D } rfl hd hb H1 e)
def spoiltS : List Nat := (Str.ofString "spoilt ").cps.toList
theorem spoilt_txl {n : Nat} (h : n < 1000) : Txl (spoiltS ++ TL.numL n) := by
  have h1 : (TL.numL n).length ≤ 3 := TL.numL_len (by decide) (by omega)
  have h2 : spoiltS.length = 7 := by decide +kernel
  refine ⟨by rw [List.length_append]; omega, fun c hc => ?_⟩
  rcases List.mem_append.mp hc with z | z
  · exact (show ∀ c ∈ spoiltS, c < 128 by decide +kernel) c z
  · exact num_128 n c z
def sp__law_harm (C CR : Addr) (_ : Gx K mg) : Sp := fun vs H Q _ => ∃ (p r kp : Addr) (n : Nat) (i : Int) (bs : List Addr) (xs : List Kp), vs = [.ref p, .ref kp, .int (n : Int), .int i] ∧ Sto C H p r xs ∧ Kept CR H kp bs xs ∧ (∀ x ∈ xs, GKp x) ∧ (bs.Nodup ∧ kp ∉ bs ∧ r ∉ bs ∧ kp ≠ r) ∧ n < 1000 ∧ (-1 ≤ i ∧ i ≤ 1000) ∧
  ∀ xs' H', xs'.length = xs.length → (∀ x ∈ xs', GKp x) → Sto C H' p r xs' → Kept CR H' kp bs xs' → KeepX H H' r bs → Q (.bl true) H'
theorem ok__law_harm {f : Addr} {C_Store C_Record : Addr} {fd : FuncData} (F : Fun K "_law_harm" "_law_harm" s__law_harm f fd) (T : Tx mg) (G : Gx K mg) (TC_Store : Tc_Store K C_Store) (TC_Record : Tc_Record K C_Record) (C_format_record : Kn.Cl P w K mg base 3 "format_record" (sp_format_record C_Record K)) (M_Store_lose_record : Kn.MtXN P w K mg base 4 C_Store "lose_record" (sp_Store_lose_record C_Store C_Record G)) (M_Store_damage_record : Kn.MtXN P w K mg base 4 C_Store "damage_record" (sp_Store_damage_record C_Store C_Record G)) : FnOk P w K mg base CX0 5 f fd ["store", "kept", "n", "index"] (sp__law_harm C_Store C_Record G) := by
  refine F.ok sc__law_harm (fun vs H Q E h => ?_) (fun cdv A outer s H vs Q E hr h => ?_)
  · obtain ⟨p, r, kp, n, i, bs, xs, rfl, _⟩ := h
    rfl
  · obtain ⟨p, r, kp, n, i, bs, xs, rfl, T0, k0, hg, ⟨nd, nk, nr, nkr⟩, hn, hi, q⟩ := h
    refine ⟨_, (pss_cons (ps_set (i := 4) sc__law_harm.nd rfl (Or.inl rfl) (pe_ix ix_list (pe_lst (pa_cons (pe_op Kn.op_addS pe_str (pe_callTy Kn.cr_strInt (by rfl) T.b_str (by decide +kernel) (pa_cons (pv 2) pa_nil))) (pa_cons pe_str pa_nil))) (pe_op op_mod (pe_callTy Kn.cr_int1 (by rfl) T.b_int (by decide +kernel) (pa_cons (pv 2) pa_nil)) pe_int) (fun _ _ => rfl)))
      (pss_cons (ps_if (PW.pt (pw_and (pt_chain op_le op_lt pe_int (pv 3) (pe_callB Kn.cr_lenSeq (by rfl) T.b_len PySem.boot_len (pa_cons (pv 1) pa_nil))) (pw_and1 (pt_cmpR op_eq (pe_op op_mod (pv 2) pe_int) pe_int (nomark _))))) (pss_one (ps_set (i := 4) sc__law_harm.nd rfl (Or.inl rfl) (Kn.pe_cl C_format_record hr (by decide) (by rfl) (pa_cons (pe_ix ix_list (pe_ix ix_list (pv 1) (pv 3) (fun _ _ => rfl)) pe_int (fun _ _ => rfl)) pa_nil)))) pss_nil)
      (pss_cons (ps_set (i := 5) sc__law_harm.nd rfl (Or.inl rfl) (pe_and (pe_chain op_le op_lt pe_int (pv 3) (pe_callB Kn.cr_lenSeq (by rfl) T.b_len PySem.boot_len (pa_cons (pv 1) pa_nil))) (pe_one (pe_cmpR op_notN1 (pe_ix ix_list (pe_ix ix_list (pv 1) (pv 3) (fun _ _ => rfl)) pe_int (fun _ _ => rfl)) pe_non (nomark _)))))
      (pss_cons (L2N.ps_try_as (i := 6) (tb := fun W => (tIfS (tTest (tOp rEq (tOp (rI (fun _ j => 0 < j) fun i j => .int (i % j)) (tVar 2) (tC (.int 3))) (tC (.int 0)))) (tDrop (tMethX C_Store "lose_record" (sp_Store_lose_record C_Store C_Record G) (WE W) (tVar 0) (tCons (tVar 3) tNil))) (tDrop (tMethX C_Store "damage_record" (sp_Store_damage_record C_Store C_Record G) (WE W) (tVar 0) (tCons (tVar 3) (tCons (tVar 4) tNil)))))) (ts := fun a cls d => (tRet (tAndV (tNotV (tVar 5)) (tOp rEq (tXf a cls d G.c_NoSuchRecord "index" (tVar 6)) (tVar 3))))) (Wout := (fun _ _ _ _ => False)) rfl rfl sc__law_harm.nd rfl rfl ⟨rfl, by decide, Or.inl G.g_NoSuchRecord⟩ Kn.takes0N
      (fun W pn xe tk po => (pss_one (ps_if (pt_cmpR op_eq (pe_op op_mod (pv 2) pe_int) pe_int (nomark _)) (pss_one (ps_expr (Kn.pe_mtXN M_Store_lose_record hr (by decide) tk (pv 0) (pa_cons (pv 3) pa_nil)))) (pss_one (ps_expr (Kn.pe_mtXN M_Store_damage_record hr (by decide) tk (pv 0) (pa_cons (pv 3) (pa_cons (pv 4) pa_nil))))))))
      (fun a oe cls d pn hz hf => (pss_one (ps_ret (pe_and (pe_not (pv 5)) (pe_one (pe_cmpR op_eq (pe_xf G.x_NoSuchRecord.xf G.n_NoSuchRecord_index hz.zc hf (pv 6)) (pv 3) (nomark _))))))))
      (pss_cons (ps_if (pt_not (pt_val (pv 5))) (pss_one (ps_ret pe_bl)) pss_nil)
      (pss_cons (ps_asg (pv 4) (pg_sub (pe_ix ix_list (pv 1) (pv 3) (fun _ _ => rfl)) pe_int set_list))
      (pss_cons (ps_if (pt_cmpR op_eq (pe_op op_mod (pv 2) pe_int) pe_int (nomark _)) (pss_one (ps_asg pe_non (pg_sub (pe_ix ix_list (pv 1) (pv 3) (fun _ _ => rfl)) pe_int set_list))) pss_nil)
      (pss_one (ps_ret pe_bl))))))))), ?_⟩
    have hsl : spoiltS.length = 7 := by decide +kernel
    have hnl : (TL.numL n).length ≤ 3 := TL.numL_len (by decide) (by omega)
    refine q_asg (v := .str (S (if n % 2 = 0 then spoiltS ++ TL.numL n else []))) (ev_ixLit (xs := strsV [spoiltS ++ TL.numL n, []]) (i := n % 2) (el_lst (ea_cons (ev_op (ev_cS (l := spoiltS) rfl) (ev_strInt (ev_var rfl) hn) (rv_addS (by omega))) (ea_cons (ev_cS (l := []) rfl) ea_nil)) (by show 2 ≤ 100000; decide)) (Kn.ev_mod (n := n) (m := 2) (ev_cb (ea_cons (ev_var rfl) ea_nil) rc_int) rfl (by decide)) rfl ?_) fun H1 e1 => ?_
    · rcases Nat.mod_two_eq_zero_or_one n with z | z
      · rw [z]; rfl
      · rw [z]; rfl
    have hm0 : Txl (if n % 2 = 0 then spoiltS ++ TL.numL n else []) := by
      split
      · exact spoilt_txl hn
      · exact ⟨by decide, fun c hc => nomatch hc⟩
    generalize (if n % 2 = 0 then spoiltS ++ TL.numL n else []) = m0 at hm0
    have k1 := k0.mono e1
    refine q_ifFin (b := (decide (0 ≤ i) && decide (i < (xs.length : Int))) && decide ((n : Int) % 5 = 0)) (et_and (a := decide (0 ≤ i) && decide (i < (xs.length : Int))) (et_test (ev_chain ev_c (ev_var rfl) rv_le (k1.evlen (ev_var rfl)) rv_lt)) fun _ => et_test (ev_op (ev_op (ev_var rfl) ev_c (rv_mod (by decide))) ev_c rv_eqI))
      (fun σ' H' => ∃ m, σ' = [some (.ref p), some (.ref kp), some (.int (n : Int)), some (.int i), some (.str (S m)), none, none] ∧ Txl m ∧ Ex H H') (fun Tz hT hb H2 e2 => ?_) (fun _ H2 e2 => ⟨m0, rfl, hm0, e1.trans e2⟩) ?_
    · rw [Bool.and_eq_true, Bool.and_eq_true, decide_eq_true_eq, decide_eq_true_eq] at hb
      have hj : i.toNat < xs.length := by omega
      have hx := List.getElem?_eq_getElem hj
      obtain ⟨b, a, hbb, _, ha, hev⟩ := Kept.at_ (K := K) k1 hx
      have gx := hg _ (List.getElem_mem hj)
      generalize xs[i.toNat] = x at ha gx
      refine s_asg (v := .str (S (fmtRc x.1))) (ev_c2 (a := a) (b := x.1) (ea_cons (hev e2 (by omega) (ev_var rfl) (ev_var rfl)).2.1 ea_nil) fun _ e => ⟨(ha.mono e2).mono e, gx.f⟩) fun H3 e3 => hT _ _ ⟨_, rfl, gx.f.x, (e1.trans e2).trans e3⟩
    · rintro σ' H2 ⟨m, rfl, hm, e2⟩
      refine q_asg (ev_there (k0.mono e2) rfl rfl) fun H3 e3 => ?_
      have e03 := e2.trans e3
      have T3 := T0.mono e03
      have k3 := k0.mono e03
      obtain ⟨dx, d, us, h1, h2, h3⟩ := id T3.ex
      have mod3 : EvT (tTest (tOp rEq (tOp (rI (fun _ j => 0 < j) fun i j => .int (i % j)) (tVar 2) (tC (.int 3))) (tC (.int 0)))) ([some (.ref p), some (.ref kp), some (.int (n : Int)), some (.int i), some (.str (S m)), some (.bl (lineAt xs i).isSome), none] : L2.St) H3 (decide ((n : Int) % 3 = 0)) := et_test (ev_op (ev_op (ev_var rfl) ev_c (rv_mod (by decide))) ev_c rv_eqI)
      cases hl : lineAt xs i with
      | none =>
        rw [hl] at mod3
        have hand : ∀ (H6 : Hp) (dd ex : Addr) (D' : Ends), D'.rt = Q → Ex H H6 → H6 dd = some (.xd [("index", .int i)]) → tRet (tAndV (tNotV (tVar 5)) (tOp rEq (tXf ex (.ref G.c_NoSuchRecord) (some dd) G.c_NoSuchRecord "index" (tVar 6)) (tVar 3))) D' ([some (.ref p), some (.ref kp), some (.int (n : Int)), some (.int i), some (.str (S m)), some (.bl false), some (.ref ex)] : L2.St) H6 := fun H6 dd ex D' hD e6 hdd => by
          refine s_ret (v := .bl true) (ev_is (ev_andV (a := true) (b := true) (ev_is (ev_notV (ev_var rfl)) rfl) fun _ => ev_is (ev_op (ev_xf rfl hdd rfl) (ev_var rfl) rv_eqI) (by rw [decide_eq_true rfl])) rfl) fun H7 e7 => ?_
          rw [hD]
          exact q xs H7 rfl hg (T0.mono (e6.trans e7)) (k0.mono (e6.trans e7)) (KeepX.of (e6.trans e7))
        refine q_tryIf mod3 (fun _ _ => False) (fun D' hD _ hb H4 e4 => ?_) (fun D' hD _ hb H4 e4 => ?_) (fun _ _ z => z.elim)
        · refine ⟨_, rfl, p, dx, _, rfl, e4 _ _ h1, fld_no d r (by decide +kernel) (by decide +kernel) (by decide +kernel), ?_⟩
          refine ea_cons (ev_var rfl) ea_nil H4 (Ex.refl _) _ fun H5 e5 => ?_
          refine ⟨p, r, i, xs, rfl, T3.mono (e4.trans e5), hi, fun _ dd H6 e6 hdd => as_hit G.x_NoSuchRecord.me fun ex nex => hand H6 dd ex _ hD (((e03.trans e4).trans e5).trans e6) hdd, fun j x l hij hx hxl => ?_⟩
          rw [hij, line_at hx, hxl] at hl
          cases hl
        · refine ⟨_, rfl, p, dx, _, rfl, e4 _ _ h1, fld_no d r (by decide +kernel) (by decide +kernel) (by decide +kernel), ?_⟩
          refine ea_cons (ev_var rfl) (ea_cons (ev_var rfl) ea_nil) H4 (Ex.refl _) _ fun H5 e5 => ?_
          refine ⟨p, r, i, m, xs, rfl, T3.mono (e4.trans e5), hi, fun _ dd H6 e6 hdd => as_hit G.x_NoSuchRecord.me fun ex nex => hand H6 dd ex _ hD (((e03.trans e4).trans e5).trans e6) hdd, fun j x l hij hx hxl => ?_⟩
          rw [hij, line_at hx, hxl] at hl
          cases hl
      | some l0 =>
        obtain ⟨j, x, hij, hx, hxl⟩ := line_nat hl
        have hj := (List.getElem?_eq_some_iff.mp hx).1
        have gx := hg x (List.mem_of_getElem? hx)
        rw [hl] at mod3
        refine q_tryIf mod3 (fun σ' H' => ∃ o, σ' = [some (.ref p), some (.ref kp), some (.int (n : Int)), some (.int i), some (.str (S m)), some (.bl true), none] ∧ ((n : Int) % 3 = 0 → o = none) ∧ (¬ (n : Int) % 3 = 0 → o = some m) ∧ Sto C_Store H' p r (xs.set j (x.1, o)) ∧ Keeps H3 H' r) (fun D' hD hN hb H4 e4 => ?_) (fun D' hD hN hb H4 e4 => ?_) ?_
        · refine ⟨_, rfl, p, dx, _, rfl, e4 _ _ h1, fld_no d r (by decide +kernel) (by decide +kernel) (by decide +kernel), ?_⟩
          refine ea_cons (ev_var rfl) ea_nil H4 (Ex.refl _) _ fun H5 e5 => ?_
          refine ⟨p, r, i, xs, rfl, T3.mono (e4.trans e5), hi, fun z => (by rw [hl] at z; cases z), fun j2 x2 l2 hij2 hx2 hxl2 H6 T6 k6 => ?_⟩
          obtain rfl : j2 = j := by omega
          rw [hx] at hx2
          cases hx2
          exact hN _ _ ⟨none, rfl, fun _ => rfl, fun z => absurd (of_decide_eq_true hb) z, T6, fun b o ho hne => k6 _ _ (e5 _ _ (e4 _ _ ho)) hne⟩
        · refine ⟨_, rfl, p, dx, _, rfl, e4 _ _ h1, fld_no d r (by decide +kernel) (by decide +kernel) (by decide +kernel), ?_⟩
          refine ea_cons (ev_var rfl) (ea_cons (ev_var rfl) ea_nil) H4 (Ex.refl _) _ fun H5 e5 => ?_
          refine ⟨p, r, i, m, xs, rfl, T3.mono (e4.trans e5), hi, fun z => (by rw [hl] at z; cases z), fun j2 x2 l2 hij2 hx2 hxl2 H6 T6 k6 => ?_⟩
          obtain rfl : j2 = j := by omega
          rw [hx] at hx2
          cases hx2
          exact hN _ _ ⟨some m, rfl, fun z => absurd z (of_decide_eq_false hb), fun _ => rfl, T6, fun b o ho hne => k6 _ _ (e5 _ _ (e4 _ _ ho)) hne⟩
        · rintro σ' H6 ⟨o, rfl, ho1, ho2, T6, k6⟩
          have B6 : But H3 H6 r := ⟨⟨_, h2⟩, k6⟩
          have kk6 : Kept C_Record H6 kp bs xs := k3.but B6 nkr nr
          refine q_when (b := false) (et_not (a := true) (et_B (ev_var rfl))) (fun z => nomatch z) fun _ H7 e7 => ?_
          have k7 := kk6.mono e7
          obtain ⟨b, a, hbb, hbl, ha, hev⟩ := Kept.at_ (K := K) k7 hx
          have nbr : b ≠ r := fun z => nr (z ▸ List.mem_of_getElem? hbb)
          have nbk : kp ≠ b := fun z => nk (z ▸ List.mem_of_getElem? hbb)
          refine q_setL (j := 1) hbl (ev_var rfl) (hev (Ex.refl _) hij (ev_var rfl) (ev_var rfl)).1 ev_c (by show 1 < 2; decide) fun H8 e8 => ?_
          have k8 := k7.mono e8
          have k9 : Kept C_Record (L2.upd H8 b (.lst [.ref a, lnV (some m)])) kp bs (xs.set j (x.1, some m)) := k8.set hbb hx (e8 _ _ hbl) (ha.mono e8) nd nk
          have B9 : But H8 (L2.upd H8 b (.lst [.ref a, lnV (some m)])) b := ⟨⟨_, e8 _ _ hbl⟩, fun c u hc hne => by rw [upd_ne hne]; exact hc⟩
          have T9 : Sto C_Store (L2.upd H8 b (.lst [.ref a, lnV (some m)])) p r (xs.set j (x.1, o)) := ((T6.mono e7).mono e8).but B9 nbr.symm
          have h9 : L2.upd H8 b (.lst [.ref a, lnV (some m)]) b = some (.lst [.ref a, lnV (some m)]) := upd_same
          have K9 : KeepX H (L2.upd H8 b (.lst [.ref a, lnV (some m)])) r bs := fun c u hc n1 n2 => by
            rw [upd_ne fun z => n2 (by rw [z]; exact List.mem_of_getElem? hbb)]
            exact e8 _ _ (e7 _ _ (k6 _ _ (e03 _ _ hc) n1))
          have ha9 := (ha.mono e8).but B9
          show tSeq _ _ _ _ (L2.upd H8 b (.lst [.ref a, lnV (some m)]))
          generalize L2.upd H8 b (.lst [.ref a, lnV (some m)]) = H9 at k9 T9 h9 K9 ha9
          have hx9 : (xs.set j (x.1, some m))[j]? = some (x.1, some m) := by rw [List.getElem?_set_self hj]
          have gk : ∀ o' : Option (List Nat), (∀ l, o' = some l → Txl l) → ∀ y ∈ xs.set j (x.1, o'), GKp y := fun o' h y hy => by
            rcases List.mem_or_eq_of_mem_set hy with z | z
            · exact hg y z
            · rw [z]; exact ⟨gx.f, h⟩
          obtain ⟨b2, a2, hbb2, hbl2, ha2, hev2⟩ := Kept.at_ (K := K) k9 hx9
          rw [hbb] at hbb2
          cases hbb2
          refine q_ifFin (b := decide ((n : Int) % 3 = 0)) (et_test (ev_op (ev_op (ev_var rfl) ev_c (rv_mod (by decide))) ev_c rv_eqI)) (fun σ' H' => Kept C_Record H' kp bs (xs.set j (x.1, o)) ∧ Sto C_Store H' p r (xs.set j (x.1, o)) ∧ KeepX H H' r bs) (fun Tz hT hb H10 e10 => ?_) (fun hb H10 e10 => ?_) ?_
          · obtain rfl := ho1 (of_decide_eq_true hb)
            refine s_setL (j := 1) (e10 _ _ h9) ev_c (hev2 e10 hij (ev_var rfl) (ev_var rfl)).1 ev_c (by show 1 < 2; decide) fun H11 e11 => ?_
            have k11 := ((k9.mono e10).mono e11).set hbb hx9 (e11 _ _ (e10 _ _ h9)) ((ha9.mono e10).mono e11) nd nk (o := none)
            rw [List.set_set] at k11
            refine hT _ _ ⟨k11, ((T9.mono e10).mono e11).but ⟨⟨_, e11 _ _ (e10 _ _ h9)⟩, fun c u hc hne => by rw [upd_ne hne]; exact hc⟩ nbr.symm, fun c u hc n1 n2 => ?_⟩
            rw [upd_ne fun z => n2 (by rw [z]; exact List.mem_of_getElem? hbb)]
            exact e11 _ _ (e10 _ _ (K9 _ _ hc n1 n2))
          · obtain rfl := ho2 (of_decide_eq_false hb)
            exact ⟨k9.mono e10, T9.mono e10, fun c u hc n1 n2 => e10 _ _ (K9 _ _ hc n1 n2)⟩
          · rintro σ' H10 ⟨z1, z2, z3⟩
            refine s_ret (v := .bl true) ev_c fun H11 e11 => q _ H11 (by rw [List.length_set]) (gk o fun l hl2 => ?_) (z2.mono e11) (z1.mono e11) fun c u hc n1 n2 => e11 _ _ (z3 _ _ hc n1 n2)
            by_cases h3n : (n : Int) % 3 = 0
            · rw [ho1 h3n] at hl2; cases hl2
            · rw [ho2 h3n] at hl2
              cases hl2
              exact hm
end

--SPLIT
section
variable {P : Program} {w : World} {K : PySem.W.Frag} {mg : Str → Option Value} {base : Heap}
theorem s_whenNC {σ : L2.St} {H : Hp} {tA : TA} {sp : Sp} {E : XK} {vs : List V} {D : Ends} {tu tw : TS} (hA : EvA tA σ H vs) (k : ∀ H1, Ex H H1 → sp vs H1 (fun v H2 => ∃ b, v = .bl b ∧ if (!b) = true then tu D σ H2 else tw D σ H2) E) : tIfS (tNot (tB (tCall sp [] E tA))) tu tw D σ H := hA H (Ex.refl H) _ fun H1 e1 => by
  rw [List.append_nil]
  exact k H1 e1
/-- a row that is told, beside what is due -/
def dueD (x : Kp) : PyData := match x.2 with
  | none => .none
  | some l => .tuple [.int ((key (fmtRc x.1) : Nat) : Int), .str (S l)]
theorem dt_row {H : Hp} {v : V} {x : Kp} (h : RowV H v x) : Dt H v (dueD x) := by
  unfold dueD
  cases hx : x.2 with
  | none =>
    rw [h.non hx]
    exact .non
  | some l =>
    obtain ⟨a, rfl, ha⟩ := h.row hx
    exact .tup ha (.cons (.int _) (.cons (.str _) .nil))
theorem shaped_due (x : Kp) (h : ∀ l, x.2 = some l → Txl l) : SeqAt.shaped (dueD x) = true := by
  unfold dueD
  cases hx : x.2 with
  | none => rfl
  | some l =>
    have z : PyData.canLayAll0 [.int ((key (fmtRc x.1) : Nat) : Int), .str (S l)] = true := can_cons (by simp [PyData.canLay0]) (can_cons (canS (List.all_eq_true.mpr fun c hc => decide_eq_true (by have := (h l hx).2 c hc; omega))) rfl)
    show (PyData.canLayAll0 [.int ((key (fmtRc x.1) : Nat) : Int), .str (S l)] && decide (PyData.depthAll [.int ((key (fmtRc x.1) : Nat) : Int), .str (S l)] + 1 ≤ 64)) = true
    rw [z]
    rfl
theorem kept_map {CR : Addr} {H H1 : Hp} : ∀ {as : List Addr} {ys : List Kp}, Paired (KeptV CR H) as ys → (∀ a ∈ as, ∀ x, KeptV CR H a x → KeptV CR H1 a x) → Paired (KeptV CR H1) as ys := fun P => by
  induction P with
  | nil => exact fun _ => .nil
  | cons hd _ ih => exact fun h => .cons (h _ List.mem_cons_self _ hd) (ih fun a ha => h a (List.mem_cons_of_mem _ ha))
theorem kept_lst {CR : Addr} {H : Hp} : ∀ {as : List Addr} {ys : List Kp}, Paired (KeptV CR H) as ys → ∀ b ∈ as, ∃ zs, H b = some (.lst zs) := fun P => by
  induction P with
  | nil => exact fun b h => nomatch h
  | cons hd _ ih =>
    intro b hb
    rcases List.mem_cons.mp hb with z | z
    · obtain ⟨a, h, _⟩ := hd
      exact ⟨_, by rw [z]; exact h⟩
    · exact ih b z
theorem pair_snoc {α β : Type} {F : α → β → Prop} {a : α} {b : β} : ∀ {as : List α} {bs : List β}, Paired F as bs → F a b → Paired F (as ++ [a]) (bs ++ [b]) := fun h z => by
  induction h with
  | nil => exact .cons z .nil
  | cons y _ ih => exact .cons y ih
theorem Kept.add {CR : Addr} {H : Hp} {kp nb a : Addr} {bs : List Addr} {xs : List Kp} {x : Kp} (h : Kept CR H kp bs xs) (hk : kp ∉ bs) (hb : H nb = some (.lst [.ref a, lnV x.2])) (ne : nb ≠ kp) (hr : RcO CR H a x.1) :
    Kept CR (L2.upd H kp (.lst (bs.map V.ref ++ [.ref nb]))) kp (bs ++ [nb]) (xs ++ [x]) := by
  have B : But H (L2.upd H kp (.lst (bs.map V.ref ++ [.ref nb]))) kp := ⟨⟨_, h.k⟩, fun c u hc hne => by rw [upd_ne hne]; exact hc⟩
  refine ⟨by rw [upd_same, List.map_append]; rfl, pair_snoc (kept_map h.p fun b hb2 y ⟨a2, z1, z2⟩ => ⟨a2, B.2 _ _ z1 fun z => hk (z ▸ hb2), z2.but B⟩) ⟨a, B.2 _ _ hb ne, hr.but B⟩⟩
theorem q_ifFin2 {σ : L2.St} {H : Hp} {D : Ends} {tz tu tw : TS} {tc : TT} {b : Bool} (h : EvT tc σ H b) (Fin : L2.St → Hp → Prop) (h1 : ∀ Tz : L2.St → Hp → Prop, (∀ σ H, Fin σ H → Tz σ H) → b = true → ∀ H1, Ex H H1 → tu { D with nx := Tz } σ H1) (h2 : ∀ Tz : L2.St → Hp → Prop, (∀ σ H, Fin σ H → Tz σ H) → b = false → ∀ H1, Ex H H1 → tw { D with nx := Tz } σ H1) (hd : ∀ σ' H', Fin σ' H' → tz D σ' H') : tSeq (tIfS tc tu tw) tz D σ H :=
  q_if h (h1 (tz D) hd) (h2 (tz D) hd)
theorem q_whenR {σ : L2.St} {H : Hp} {D : Ends} {tz tu : TS} {tc : TT} (Fin : L2.St → Hp → Prop) (h : ∀ Tz : L2.St → Hp → Prop, (∀ σ H, Fin σ H → Tz σ H) → tIfS tc tu tNext { D with nx := Tz } σ H) (hd : ∀ σ' H', Fin σ' H' → tz D σ' H') : tSeq (tIfS tc tu tNext) tz D σ H := h (tz D) hd
theorem ev_one {σ : L2.St} {H : Hp} {C CR p r kp : Addr} {G : Gx K mg} {i : Int} {bs : List Addr} {xs : List Kp} {ta tb tc : TE} (ha : Ev ta σ H (.ref p)) (hb : Ev tb σ H (.ref kp)) (hc : Ev tc σ H (.int i)) (T : Sto C H p r xs) (k : Kept CR H kp bs xs) (hg : ∀ x ∈ xs, GKp x) (hi : -1 ≤ i ∧ i ≤ 1000) :
    Ev (tCall (sp__law_one C CR G) [] E0 (tCons ta (tCons tb (tCons tc tNil)))) σ H (.bl true) := fun H1 e Q q =>
  ha H1 e _ fun H2 e2 => hb H2 (e.trans e2) _ fun H3 e3 => hc H3 ((e.trans e2).trans e3) _ fun H4 e4 => ⟨p, r, kp, i, bs, xs, rfl, T.mono (((e.trans e2).trans e3).trans e4), k.mono (((e.trans e2).trans e3).trans e4), hg, hi, fun H5 e5 => q H5 (((e2.trans e3).trans e4).trans e5)⟩
theorem ev_found {σ : L2.St} {H : Hp} {C CR p r kp a : Addr} {G : Gx K mg} {pr : Rc} {bs : List Addr} {xs : List Kp} {ta tb tc : TE} (ha : Ev ta σ H (.ref p)) (hb : Ev tb σ H (.ref kp)) (hc : Ev tc σ H (.ref a)) (T : Sto C H p r xs) (k : Kept CR H kp bs xs) (hg : ∀ x ∈ xs, GKp x) (hl : xs.length < 1000) (hr : RcO CR H a pr) (f : Fn pr) :
    Ev (tCall (sp__law_found C CR G) [] E0 (tCons ta (tCons tb (tCons tc tNil)))) σ H (.bl true) := fun H1 e Q q =>
  ha H1 e _ fun H2 e2 => hb H2 (e.trans e2) _ fun H3 e3 => hc H3 ((e.trans e2).trans e3) _ fun H4 e4 => ⟨p, r, kp, a, pr, bs, xs, rfl, T.mono (((e.trans e2).trans e3).trans e4), k.mono (((e.trans e2).trans e3).trans e4), hg, hl, hr.mono (((e.trans e2).trans e3).trans e4), f, fun H5 e5 => q H5 (((e2.trans e3).trans e4).trans e5)⟩
theorem ev_count {σ : L2.St} {H : Hp} {C CR p r : Addr} {xs : List Kp} {j : Nat} (hσ : σ[j]? = some (some (.ref p))) (T : Sto C H p r xs) : Ev (tMeth C "record_count" (sp_Store_record_count C CR K) [] E0 (tVar j) tNil) σ H (.int (xs.length : Int)) := by
  obtain ⟨dx, d, us, h1, _, _⟩ := id T.ex
  exact ev_meth (C := C) (E := E0) (vs := []) (z := .int (xs.length : Int)) (ev_var hσ) h1 (fld_no d r (by decide +kernel) (by decide +kernel) (by decide +kernel)) ea_nil (fun H3 e3 Q q E => ⟨p, r, xs, rfl, T.mono e3, fun H4 e4 => q H4 e4⟩)
def sp_law (K : PySem.W.Frag) : Sp := fun vs H Q _ => ∃ (a : Addr) (ns : List Int), vs = [.ref a] ∧ (SqL K H a (ns.map V.int) ∧ ns.length ≤ 63) ∧ Rt H (.bl true) Q
theorem ok_law {f : Addr} {C_Store C_Record : Addr} {fd : FuncData} (F : Fun K "law" "law" s_law f fd) (T : Tx mg) (G : Gx K mg) (TC_Store : Tc_Store K C_Store) (TC_Record : Tc_Record K C_Record) (M_Store : Kn.MkrD P w K mg base 1 "Store" C_Store (sp_Store___init__ C_Store K) [.non]) (C__law_cell : Kn.Cl P w K mg base 1 "_law_cell" (sp__law_cell K)) (C__law_numbers : Kn.Cl P w K mg base 1 "_law_numbers" (sp__law_numbers K)) (C__law_record : Kn.Cl P w K mg base 3 "_law_record" (sp__law_record C_Record K)) (M_Store_add_record : Kn.Mt P w K mg base 4 C_Store "add_record" (sp_Store_add_record C_Store C_Record K)) (C_format_record : Kn.Cl P w K mg base 3 "format_record" (sp_format_record C_Record K)) (C__law_harm : Kn.Cl P w K mg base 5 "_law_harm" (sp__law_harm C_Store C_Record G)) (M_Store_record_count : Kn.Mt P w K mg base 1 C_Store "record_count" (sp_Store_record_count C_Store C_Record K)) (C__law_found : Kn.Cl P w K mg base 10 "_law_found" (sp__law_found C_Store C_Record G)) (C__law_one : Kn.Cl P w K mg base 10 "_law_one" (sp__law_one C_Store C_Record G)) (M_Store_kept_records : Kn.Mt P w K mg base 1 C_Store "kept_records" (sp_Store_kept_records C_Store C_Record K)) (C_content_key : Kn.Cl P w K mg base 1 "content_key" (sp_content_key K)) : FnOk P w K mg base CX0 11 f fd ["script"] (sp_law K) := by
  refine F.ok sc_law (fun vs H Q E h => ?_) (fun cdv A outer s H vs Q E hr h => ?_)
  · obtain ⟨a, ns, rfl, _⟩ := h
    rfl
  · obtain ⟨a, ns, rfl, ⟨hS, hl63⟩, q⟩ := h
    refine ⟨_, (pss_cons (ps_set (i := 1) sc_law.nd rfl (Or.inl rfl) (Kn.pe_mkrD0 M_Store hr (by decide) (by rfl)))
      (pss_cons (ps_set (i := 2) sc_law.nd rfl (Or.inl rfl) (Kn.pe_mkrD0 M_Store hr (by decide) (by rfl)))
      (pss_cons (ps_set (i := 3) sc_law.nd rfl (Or.inl rfl) (pe_lst pa_nil))
      (pss_cons (ps_for PassesOwn.never rfl (pi_range1 rfl T.b_range (pa_cons (pe_callB (Kn.cr_min2 rfl) (by rfl) T.b_min (by decide +kernel) (pa_cons pe_int (pa_cons (pe_callB (Kn.cr_max2 rfl) (by rfl) T.b_max (by decide +kernel) (pa_cons pe_int (pa_cons (pe_callB Kn.cr_lenSeq (by rfl) T.b_len PySem.boot_len (pa_cons (pv 0) pa_nil)) pa_nil))) pa_nil))) pa_nil)) (pg_name (i := 4) sc_law.nd rfl (Or.inl rfl)) (pss_cons (ps_set (i := 5) sc_law.nd rfl (Or.inl rfl) (Kn.pe_cl C__law_numbers hr (by decide) (by rfl) (pa_cons (Kn.pe_cl C__law_cell hr (by decide) (by rfl) (pa_cons (pv 0) (pa_cons (pv 4) pa_nil))) (pa_cons pe_int pa_nil))))
      (pss_cons (ps_set (i := 6) sc_law.nd rfl (Or.inl rfl) (Kn.pe_cl C__law_record hr (by decide) (by rfl) (pa_cons (Kn.pe_cl C__law_cell hr (by decide) (by rfl) (pa_cons (pv 0) (pa_cons (pv 4) pa_nil))) (pa_cons (pe_op op_mod (pe_callTy Kn.cr_int1 (by rfl) T.b_int (by decide +kernel) (pa_cons (pe_ix ix_list (pv 5) pe_int (fun _ _ => rfl)) pa_nil)) pe_int) pa_nil))))
      (pss_cons (ps_if (pt_cmpR op_lt (pe_op op_mod (pe_ix ix_list (pv 5) pe_int (fun _ _ => rfl)) pe_int) pe_int (nomark _)) (pss_cons (ps_if (pt_cmpR op_ne (Kn.pe_mt M_Store_add_record hr (by decide) (pv 1) (pa_cons (pv 6) pa_nil)) (pe_callB Kn.cr_lenSeq (by rfl) T.b_len PySem.boot_len (pa_cons (pv 3) pa_nil)) (nomark _)) (pss_one (ps_ret pe_bl)) pss_nil)
      (pss_one (ps_expr (pe_bm PySem.F.plainAttrs_list PySem.F.slot_list_append PySem.F.type_list_append mt_append (pv 3) (pa_cons (pe_lst (pa_cons (pv 6) (pa_cons (Kn.pe_cl C_format_record hr (by decide) (by rfl) (pa_cons (pv 6) pa_nil)) pa_nil))) pa_nil))))) (pss_one (ps_if (pt_not (pt_val (Kn.pe_cl C__law_harm hr (by decide) (by rfl) (pa_cons (pv 1) (pa_cons (pv 3) (pa_cons (pe_callTy Kn.cr_int1 (by rfl) T.b_int (by decide +kernel) (pa_cons (pe_ix ix_list (pv 5) pe_int (fun _ _ => rfl)) pa_nil)) (pa_cons (pe_op op_sub (pe_op op_mod (pe_callTy Kn.cr_int1 (by rfl) T.b_int (by decide +kernel) (pa_cons (pe_ix ix_list (pv 5) pe_int (fun _ _ => rfl)) pa_nil)) (pe_op op_add (pe_callB Kn.cr_lenSeq (by rfl) T.b_len PySem.boot_len (pa_cons (pv 3) pa_nil)) pe_int)) pe_int) pa_nil))))))) (pss_one (ps_ret pe_bl)) pss_nil)))
      (pss_cons (ps_if (PW.pt (pw_and (pt_cmpR op_eq (pe_op op_mod (pv 4) pe_int) pe_int (nomark _)) (pw_and1 (pt_cmpR op_ne (Kn.pe_mt M_Store_add_record hr (by decide) (pv 2) (pa_cons (pv 6) pa_nil)) (pe_op op_fdiv (pv 4) pe_int) (nomark _))))) (pss_one (ps_ret pe_bl)) pss_nil)
      (pss_cons (ps_if (PW.pt (pw_or (pt_cmpR op_ne (Kn.pe_mt0 M_Store_record_count hr (by decide) (pv 1)) (pe_callB Kn.cr_lenSeq (by rfl) T.b_len PySem.boot_len (pa_cons (pv 3) pa_nil)) (nomark _)) (pw_or1 (pt_not (pt_val (Kn.pe_cl C__law_found hr (by decide) (by rfl) (pa_cons (pv 1) (pa_cons (pv 3) (pa_cons (pv 6) pa_nil))))))))) (pss_one (ps_ret pe_bl)) pss_nil)
      (pss_one (ps_if (pt_not (pt_val (Kn.pe_cl C__law_one hr (by decide) (by rfl) (pa_cons (pv 1) (pa_cons (pv 3) (pa_cons (pe_op op_sub (pe_op op_mod (pe_callTy Kn.cr_int1 (by rfl) T.b_int (by decide +kernel) (pa_cons (pe_ix ix_list (pv 5) pe_int (fun _ _ => rfl)) pa_nil)) (pe_op op_add (pe_callB Kn.cr_lenSeq (by rfl) T.b_len PySem.boot_len (pa_cons (pv 3) pa_nil)) pe_int)) pe_int) pa_nil)))))) (pss_one (ps_ret pe_bl)) pss_nil))))))))
      (pss_cons (ps_set (i := 7) sc_law.nd rfl (Or.inl rfl) (Kn.pe_mt0 M_Store_kept_records hr (by decide) (pv 1)))
      (pss_cons (ps_for PassesOwn.never rfl (pi_range1 rfl T.b_range (pa_cons (pe_callB Kn.cr_lenSeq (by rfl) T.b_len PySem.boot_len (pa_cons (pv 3) pa_nil)) pa_nil)) (pg_name (i := 8) sc_law.nd rfl (Or.inl rfl)) (pss_cons (ps_set (i := 9) sc_law.nd rfl (Or.inl rfl) (pe_ix ix_list (pe_ix ix_list (pv 3) (pv 8) (fun _ _ => rfl)) pe_int (fun _ _ => rfl)))
      (pss_cons (ps_set (i := 10) sc_law.nd rfl (Or.inl rfl) pe_non)
      (pss_cons (ps_if (pt_cmpR op_notN1 (pv 9) pe_non (nomark _)) (pss_one (ps_set (i := 10) sc_law.nd rfl (Or.inl rfl) (pe_tup (pa_cons (Kn.pe_cl C_content_key hr (by decide) (by rfl) (pa_cons (Kn.pe_cl C_format_record hr (by decide) (by rfl) (pa_cons (pe_ix ix_list (pe_ix ix_list (pv 3) (pv 8) (fun _ _ => rfl)) pe_int (fun _ _ => rfl)) pa_nil)) pa_nil)) (pa_cons (pv 9) pa_nil))))) pss_nil)
      (pss_one (ps_if (PW.pt (pw_or (pt_cmpR (op_neD hr.units) (pe_ix ix_list (pv 7) (pv 8) (fun _ _ => rfl)) (pv 10) (nomark _)) (pw_or1 (pt_not (pt_val (Kn.pe_cl C__law_one hr (by decide) (by rfl) (pa_cons (pv 1) (pa_cons (pv 3) (pa_cons (pv 8) pa_nil))))))))) (pss_one (ps_ret pe_bl)) pss_nil))))))
      (pss_one (ps_ret (pe_and (pe_cmpR op_eq (pe_callB Kn.cr_lenSeq (by rfl) T.b_len PySem.boot_len (pa_cons (pv 7) pa_nil)) (pe_callB Kn.cr_lenSeq (by rfl) T.b_len PySem.boot_len (pa_cons (pv 3) pa_nil)) (nomark _)) (pe_one (pe_cmpR op_eq (Kn.pe_mt0 M_Store_record_count hr (by decide) (pv 2)) (pe_op op_fdiv (pe_op op_add (pe_callB (Kn.cr_min2 rfl) (by rfl) T.b_min (by decide +kernel) (pa_cons pe_int (pa_cons (pe_callB (Kn.cr_max2 rfl) (by rfl) T.b_max (by decide +kernel) (pa_cons pe_int (pa_cons (pe_callB Kn.cr_lenSeq (by rfl) T.b_len PySem.boot_len (pa_cons (pv 0) pa_nil)) pa_nil))) pa_nil))) pe_int) pe_int) (nomark _)))))))))))), ?_⟩
    have hlen : (ns.map V.int).length = ns.length := List.length_map _
    intro p dx1 np1 nx1 ne1
    refine ⟨p, dx1, rfl, upd_same, fun r H1 nr1 T1 k1 => ⟨rfl, ?_⟩⟩
    have e01 : Ex H H1 := fun b o hb => k1 b o (by rw [upd_ne (ne_of_none hb np1), upd_ne (ne_of_none hb nx1)]; exact hb) (ne_of_none hb np1)
    have nr0 : H r = none := by
      cases hz : H r with
      | none => rfl
      | some o =>
        rw [upd_ne (ne_of_none hz np1), upd_ne (ne_of_none hz nx1), hz] at nr1
        cases nr1
    dsimp only
    intro p2 dx2 np2 nx2 ne2
    refine ⟨p2, dx2, rfl, upd_same, fun r2 H2 nr2 T2 k2 => ⟨rfl, ?_⟩⟩
    have e12 : Ex H1 H2 := fun b o hb => k2 b o (by rw [upd_ne (ne_of_none hb np2), upd_ne (ne_of_none hb nx2)]; exact hb) (ne_of_none hb np2)
    have nr20 : H1 r2 = none := by
      cases hz : H1 r2 with
      | none => rfl
      | some o =>
        rw [upd_ne (ne_of_none hz np2), upd_ne (ne_of_none hz nx2), hz] at nr2
        cases nr2
    have e02 := e01.trans e12
    have nr2H : H r2 = none := fresh_back e01 nr20
    have hr1 : ∃ ys, H1 r = some (.lst ys) := by
      obtain ⟨_, _, us, _, h2, _⟩ := T1.ex
      exact ⟨_, h2⟩
    have nrr : r ≠ r2 := by
      obtain ⟨ys, h⟩ := hr1
      exact ne_of_none h nr20
    dsimp only
    refine q_asgL (xs := []) (el_lst ea_nil (by show 0 ≤ 100000; decide)) fun kp H3 nkp e3 hkp => ?_
    have T13 := (T1.mono e12).mono e3
    have T23 := T2.mono e3
    have nkp0 : H kp = none := fresh_back e02 nkp
    have nkr : kp ≠ r := by
      obtain ⟨ys, h⟩ := hr1
      exact (ne_of_none (e12 _ _ h) nkp).symm
    have nkr2 : kp ≠ r2 := by
      obtain ⟨_, _, us, _, h2, _⟩ := T2.ex
      exact (ne_of_none h2 nkp).symm
    obtain ⟨n, hn6, hn60, hnv⟩ : ∃ n : Nat, 6 ≤ n ∧ n ≤ 60 ∧ (if (if (ns.length : Int) > 6 then (ns.length : Int) else 6) < 60 then (if (ns.length : Int) > 6 then (ns.length : Int) else 6) else 60) = (n : Int) := by
      refine ⟨min 60 (max 6 ns.length), by omega, by omega, ?_⟩
      split <;> split <;> omega
    have hmin : ∀ {σ : L2.St} {H' : Hp}, σ[0]? = some (some (.ref a)) → Ex H H' → Ev (tCB rMn2 (tCons (tC (.int 60)) (tCons (tCB rMax2 (tCons (tC (.int 6)) (tCons (tCB (rLenS K) (tCons (tVar 0) tNil)) tNil))) tNil))) σ H' (.int (n : Int)) := fun h e => ev_is (ev_mn2 ev_c (ev_max2 ev_c (ev_is (ev_len (ev_var h) (ex_l e hS)) (by rw [hlen])))) (by rw [← hnv])
    refine q_forR1 (n := (n : Int)) (ea_cons (hmin rfl (e02.trans e3)) ea_nil) (by omega)
      (fun i σ' H' => ∃ (xs xs2 : List Kp) (bs : List Addr) (y4 y5 y6 : Option V), σ' = [some (.ref a), some (.ref p), some (.ref p2), some (.ref kp), y4, y5, y6, none, none, none, none] ∧ Ex H H' ∧ Sto C_Store H' p r xs ∧ Sto C_Store H' p2 r2 xs2 ∧ Kept C_Record H' kp bs xs ∧ (∀ x ∈ xs, GKp x) ∧ (bs.Nodup ∧ kp ∉ bs ∧ r ∉ bs ∧ r2 ∉ bs) ∧ xs.length ≤ i ∧ xs2.length = (i + 3) / 4 ∧ ∀ b ∈ bs, H b = none)
      (fun H4 e4 => ⟨[], [], [], _, _, _, rfl, (e02.trans e3).trans e4, T13.mono e4, T23.mono e4, ⟨e4 _ _ hkp, .nil⟩, (fun _ h => nomatch h), ⟨List.nodup_nil, (fun h => nomatch h), (fun h => nomatch h), (fun h => nomatch h)⟩, Nat.le_refl 0, rfl, fun _ h => nomatch h⟩) ?_ ?_
    · rintro i σ' H4 hi ⟨xs, xs2, bs, y4, y5, y6, rfl, eH, T4, U4, k4, hg, ⟨nd, nk, nr, nr'⟩, hxl, hx2, hfr⟩
      have hi60 : i < 60 := by omega
      refine q_asgC (ea_cons (ev_c3 (a := a) (b := ns) (c := i) (ea_cons (ev_var rfl) (ea_cons (ev_var rfl) ea_nil)) fun H1 e1 => ex_l (eH.trans e1) hS) (ea_cons (ev_c (v := .int ((4 : Nat) : Int))) ea_nil)) fun H5 e5 => ?_
      refine ⟨_, 4, rfl, by decide, fun rs hrl hrs pr H6 npr e6 hpr => ?_⟩
      obtain ⟨q0, q1, q2, q3, rfl⟩ : ∃ r0 r1 r2 r3, rs = [r0, r1, r2, r3] := by
        match rs, hrl with
        | [r0, r1, r2, r3], _ => exact ⟨r0, r1, r2, r3, rfl⟩
      have b2 : q2 < 1000 := hrs q2 (by simp)
      have ix : ∀ {σ : L2.St} {H' : Hp} {j v : Nat}, σ[5]? = some (some (.ref pr)) → Ex H6 H' → ([q0, q1, q2, q3])[j]? = some v → Ev (tOp (rIxL K) (tVar 5) (tC (.int (j : Int)))) σ H' (.int (v : Int)) := fun {σ H' j v} h e hv => ev_op (ev_var h) ev_c (rv_ixL (sq_of (e _ _ hpr)) (atI_nat' rfl (by rw [List.getElem?_map, hv]; rfl)))
      dsimp only
      refine q_asgC (ea_cons (ev_c3 (a := a) (b := ns) (c := i) (ea_cons (ev_var rfl) (ea_cons (ev_var rfl) ea_nil)) fun H1 e1 => ex_l (((eH.trans e5).trans e6).trans e1) hS) (ea_cons (Kn.ev_mod (m := 7) (ev_cb (ea_cons (ix (j := 1) rfl (Ex.refl _) rfl) ea_nil) rc_int) rfl (by decide)) ea_nil)) fun H7 e7 => ?_
      refine ⟨_, q1 % 7, rfl, by omega, fun ms hms ra H8 nra e8 hra => ?_⟩
      obtain ⟨f1, f2, f3⟩ := rec_good hms (show q1 % 7 < 60 by omega)
      have f : Fn (recN ms (q1 % 7)) := ⟨f1, by omega, f3⟩
      generalize recN ms (q1 % 7) = rc at hra f
      have e48 := ((e5.trans e6).trans e7).trans e8
      have e68 := e7.trans e8
      have T8 := T4.mono e48
      have U8 := U4.mono e48
      have k8 := k4.mono e48
      have hpr8 := e68 _ _ hpr
      have eH8 := eH.trans e48
      have hblist := kept_lst k4.p
      have npb : pr ∉ bs := fun z => by
        obtain ⟨ys, h⟩ := hblist pr z
        rw [e5 _ _ h] at npr
        cases npr
      have nprr : pr ≠ r := by
        obtain ⟨_, _, us, _, h, _⟩ := T4.ex
        exact (ne_of_none (e5 _ _ h) npr).symm
      have nprr2 : pr ≠ r2 := by
        obtain ⟨_, _, us, _, h, _⟩ := U4.ex
        exact (ne_of_none (e5 _ _ h) npr).symm
      have nprk : pr ≠ kp := (ne_of_none (e5 _ _ k4.k) npr).symm
      obtain ⟨iv, hiv⟩ : ∃ iv : Int, (q3 : Int) % ((xs.length : Int) + 2) - 1 = iv := ⟨_, rfl⟩
      have hivb : -1 ≤ iv ∧ iv ≤ 1000 := by
        have h1 := Int.emod_nonneg (q3 : Int) (show (xs.length : Int) + 2 ≠ 0 by omega)
        have h2 := Int.emod_lt_of_pos (q3 : Int) (show (0 : Int) < (xs.length : Int) + 2 by omega)
        omega
      refine q_ifFin2 (b := decide ((q0 : Int) % 5 < 3)) (et_test (ev_op (ev_op (ix (j := 0) rfl e68 rfl) ev_c (rv_mod (by decide))) ev_c rv_lt))
        (fun σ' H' => ∃ (xs' : List Kp) (bs' : List Addr), σ' = [some (.ref a), some (.ref p), some (.ref p2), some (.ref kp), some (.int (i : Int)), some (.ref pr), some (.ref ra), none, none, none, none] ∧ Ex H H' ∧ Sto C_Store H' p r xs' ∧ Sto C_Store H' p2 r2 xs2 ∧ Kept C_Record H' kp bs' xs' ∧ (∀ x ∈ xs', GKp x) ∧ (bs'.Nodup ∧ kp ∉ bs' ∧ r ∉ bs' ∧ r2 ∉ bs') ∧ xs'.length ≤ i + 1 ∧ (∀ b ∈ bs', H b = none) ∧ RcO C_Record H' ra rc ∧ H' pr = some (.lst ([q0, q1, q2, q3].map fun x : Nat => V.int (x : Int))))
        (fun Tz hT _ H9 e9 => ?_) (fun Tz hT _ H9 e9 => ?_) ?_
      · have T9 := T8.mono e9
        obtain ⟨dx, d, us, h1, h2, h3⟩ := id T9.ex
        refine ⟨_, rfl, p, dx, _, rfl, h1, fld_no d r (by decide +kernel) (by decide +kernel) (by decide +kernel), ?_⟩
        refine ea_cons (ev_var rfl) ea_nil H9 (Ex.refl _) _ fun H10 e10 => ?_
        refine ⟨p, r, ra, rc, xs, rfl, T9.mono e10, (hra.mono e9).mono e10, f, by omega, fun H11 T11 k11 => ?_⟩
        have B11 : But H10 H11 r := ⟨⟨_, e10 _ _ h2⟩, k11⟩
        have e810 := e9.trans e10
        have L10 : Lsts H10 r [] := ⟨⟨_, e10 _ _ h2⟩, fun _ h => nomatch h⟩
        have kk11 := (k8.mono e810).but B11 nkr nr
        have U11 : Sto C_Store H11 p2 r2 xs2 := (U8.mono e810).keepX (Keeps.x k11) L10 nrr.symm (fun h => nomatch h)
        have R11 : RcO C_Record H11 ra rc := RcO.keepX (hra.mono e810) (Keeps.x (bs := []) k11) L10
        refine (kk11.evlen (ev_var rfl)) H11 (Ex.refl _) _ fun H12 e12' => ?_
        refine rv_neI H12 (Ex.refl _) _ fun H13 e13 => ⟨_, rfl, ?_⟩
        rw [decide_eq_true rfl]
        show (if (!true) = true then _ else _)
        rw [if_neg (by decide)]
        have e113 := e12'.trans e13
        have k13 := kk11.mono e113
        refine s_appL k13.k (ev_var rfl) (el_lst (ea_cons (ev_var rfl) (ea_cons (ev_c2 (a := ra) (b := rc) (ea_cons (ev_var rfl) ea_nil) fun _ e => ⟨(R11.mono e113).mono e, f⟩) ea_nil)) (by show 2 ≤ 100000; decide)) (by rw [List.length_map, k13.len]; omega) fun nb H14 nnb e14 hnb => ?_
        have k14 := k13.mono e14
        have R14 := (R11.mono e113).mono e14
        have nbk : nb ≠ kp := (ne_of_none k13.k nnb).symm
        have B14 : But H14 (L2.upd H14 kp (.lst (bs.map V.ref ++ [.ref nb]))) kp := ⟨⟨_, k14.k⟩, fun c u hc hne => by rw [upd_ne hne]; exact hc⟩
        have nbb : nb ∉ bs := fun z => by
          obtain ⟨ys, h⟩ := kept_lst k13.p nb z
          rw [nnb] at h
          cases h
        have nbr : nb ≠ r := by
          obtain ⟨_, _, us, _, h, _⟩ := (T11.mono e113).ex
          exact (ne_of_none h nnb).symm
        have nbr2 : nb ≠ r2 := by
          obtain ⟨_, _, us, _, h, _⟩ := (U11.mono e113).ex
          exact (ne_of_none h nnb).symm
        have eH11 : Ex H H11 := fun b o hb => k11 _ _ (e810 _ _ (eH8 _ _ hb)) (ne_of_none hb nr0)
        have eH13 := eH11.trans e113
        refine hT _ _ ⟨xs ++ [(rc, some (fmtRc rc))], bs ++ [nb], rfl, Ex.mut (eH13.trans e14) nkp0, ((T11.mono e113).mono e14).but B14 nkr.symm, ((U11.mono e113).mono e14).but B14 nkr2.symm, k14.add nk hnb nbk R14, fun x hx => ?_, ⟨List.nodup_append.mpr ⟨nd, List.pairwise_singleton _ _, fun x hx y hy z => nbb (by rw [← List.mem_singleton.mp hy, ← z]; exact hx)⟩, fun z => ?_, fun z => ?_, fun z => ?_⟩, by rw [List.length_append]; exact Nat.succ_le_succ hxl, fun b hb => ?_, R14.but B14, ?_⟩
        · rcases List.mem_append.mp hx with z | z
          · exact hg x z
          · rw [List.mem_singleton.mp z]
            exact ⟨f, fun l hl => by cases hl; exact f.x⟩
        · rcases List.mem_append.mp z with z | z
          · exact nk z
          · exact nbk (List.mem_singleton.mp z).symm
        · rcases List.mem_append.mp z with z | z
          · exact nr z
          · exact nbr (List.mem_singleton.mp z).symm
        · rcases List.mem_append.mp z with z | z
          · exact nr' z
          · exact nbr2 (List.mem_singleton.mp z).symm
        · rcases List.mem_append.mp hb with z | z
          · exact hfr b z
          · rw [List.mem_singleton.mp z]
            exact fresh_back eH13 nnb
        · rw [upd_ne nprk]
          exact e14 _ _ (e113 _ _ (k11 _ _ (e810 _ _ hpr8) nprr))
      · have k9 := k8.mono e9
        refine s_whenNC (vs := [.ref p, .ref kp, .int (q2 : Int), .int iv]) (ea_cons (ev_var rfl) (ea_cons (ev_var rfl) (ea_cons (ev_cb (ea_cons (ix (j := 2) rfl (e68.trans e9) rfl) ea_nil) rc_int) (ea_cons (ev_is (ev_op (ev_op (ev_cb (ea_cons (ix (j := 3) rfl (e68.trans e9) rfl) ea_nil) rc_int) (ev_op (k9.evlen (ev_var rfl)) ev_c rv_I0) (rv_mod (by omega))) ev_c rv_I0) (by rw [hiv])) ea_nil)))) fun H10 e10 => ?_
        have e810 := e9.trans e10
        have T10 := T8.mono e810
        have k10 := k8.mono e810
        obtain ⟨_, _, us, _, h2, _⟩ := id T10.ex
        have L10 : Lsts H10 r bs := ⟨⟨_, h2⟩, kept_lst k10.p⟩
        refine ⟨p, r, kp, q2, iv, bs, xs, rfl, T10, k10, hg, ⟨nd, nk, nr, nkr⟩, b2, hivb, fun xs' H11 hl' hg' T11 k11 K11 => ⟨true, rfl, ?_⟩⟩
        rw [if_neg (by decide)]
        exact hT _ _ ⟨xs', bs, rfl, fun b o hb => K11 _ _ (e810 _ _ (eH8 _ _ hb)) (ne_of_none hb nr0) (fun z => by rw [hfr b z] at hb; cases hb), T11, (U8.mono e810).keepX K11 L10 nrr.symm nr', k11, hg', ⟨nd, nk, nr, nr'⟩, by omega, hfr, RcO.keepX (hra.mono e810) K11 L10, K11 _ _ (e810 _ _ hpr8) nprr npb⟩
      · rintro σ' H9 ⟨xs', bs', rfl, eH9, T9, U9, k9, hg9, ⟨nd9, nk9, nr9, nr29⟩, hxl9, hfr9, R9, hpr9⟩
        refine q_whenR (fun σ' H' => ∃ xs2' : List Kp, σ' = [some (.ref a), some (.ref p), some (.ref p2), some (.ref kp), some (.int (i : Int)), some (.ref pr), some (.ref ra), none, none, none, none] ∧ Ex H H' ∧ Sto C_Store H' p r xs' ∧ Sto C_Store H' p2 r2 xs2' ∧ Kept C_Record H' kp bs' xs' ∧ xs2'.length = (i + 4) / 4 ∧ RcO C_Record H' ra rc ∧ H' pr = some (.lst ([q0, q1, q2, q3].map fun x : Nat => V.int (x : Int)))) (fun Tz hT => ?_) ?_
        · refine (et_eqN (n := i % 4) (m := 0) (Kn.ev_mod (m := 4) (ev_var rfl) rfl (by decide)) rfl) H9 (Ex.refl _) _ fun H10 e10 => ?_
          by_cases h4 : i % 4 = 0
          · rw [decide_eq_true h4, if_pos rfl]
            have U10 := U9.mono e10
            obtain ⟨dx, d, us, h1, h2, h3⟩ := id U10.ex
            refine ⟨_, rfl, p2, dx, _, rfl, h1, fld_no d r2 (by decide +kernel) (by decide +kernel) (by decide +kernel), ?_⟩
            refine ea_cons (ev_var rfl) ea_nil H10 (Ex.refl _) _ fun H11 e11 => ?_
            have e911 := e10.trans e11
            refine ⟨p2, r2, ra, rc, xs2, rfl, U10.mono e11, R9.mono e911, f, by omega, fun H12 U12 k12 => ?_⟩
            have B12 : But H11 H12 r2 := ⟨⟨_, e11 _ _ h2⟩, k12⟩
            have L11 : Lsts H11 r2 [] := ⟨⟨_, e11 _ _ h2⟩, fun _ h => nomatch h⟩
            refine (ev_op (ev_var rfl) ev_c (rv_fdiv (i := (i : Int)) (j := 4) ⟨by decide, by decide⟩)) H12 (Ex.refl _) _ fun H13 e13 => ?_
            refine rv_neI H13 (Ex.refl _) _ fun H14 e14 => ⟨_, rfl, ?_⟩
            rw [decide_eq_true (by omega)]
            show (if (!true) = true then _ else _)
            rw [if_neg (by decide)]
            have e1214 := e13.trans e14
            exact hT _ _ ⟨_, rfl, fun b o hb => e1214 _ _ (k12 _ _ (e911 _ _ (eH9 _ _ hb)) (ne_of_none hb nr2H)), ((T9.mono e911).keepX (Keeps.x (bs := []) k12) L11 nrr (fun h => nomatch h)).mono e1214, U12.mono e1214, ((k9.mono e911).but B12 nkr2 nr29).mono e1214, by rw [List.length_append]; show xs2.length + 1 = _; omega, (RcO.keepX (R9.mono e911) (Keeps.x (bs := []) k12) L11).mono e1214, e1214 _ _ (k12 _ _ (e911 _ _ hpr9) nprr2)⟩
          · rw [decide_eq_false h4, if_neg (by decide)]
            show (if false = true then _ else _)
            rw [if_neg (by decide)]
            exact hT _ _ ⟨xs2, rfl, eH9.trans e10, T9.mono e10, U9.mono e10, k9.mono e10, by omega, R9.mono e10, e10 _ _ hpr9⟩
        · rintro σ' H10 ⟨xs2', rfl, eH10, T10, U10, k10, hx210, R10, hpr10⟩
          refine q_when (b := false) (et_is (et_or (a := false) (b := false) (et_is (et_test (ev_op (ev_count rfl T10) (k10.evlen (ev_var rfl)) rv_neI)) (by rw [decide_eq_true rfl]; rfl)) fun _ => et_not (a := true) (et_B (ev_found (ev_var rfl) (ev_var rfl) (ev_var rfl) T10 k10 hg9 (by omega) R10 f))) rfl) (fun z => nomatch z) fun _ H11 e11 => ?_
          obtain ⟨iv2, hiv2⟩ : ∃ iv : Int, (q3 : Int) % ((xs'.length : Int) + 2) - 1 = iv := ⟨_, rfl⟩
          have hivb2 : -1 ≤ iv2 ∧ iv2 ≤ 1000 := by
            have h1 := Int.emod_nonneg (q3 : Int) (show (xs'.length : Int) + 2 ≠ 0 by omega)
            have h2 := Int.emod_lt_of_pos (q3 : Int) (show (0 : Int) < (xs'.length : Int) + 2 by omega)
            omega
          have k11 := k10.mono e11
          refine s_when (b := false) (et_not (a := true) (et_B (ev_one (i := iv2) (ev_var rfl) (ev_var rfl) (ev_is (ev_op (ev_op (ev_cb (ea_cons (ev_op (ev_var rfl) ev_c (rv_ixL (sq_of (e11 _ _ hpr10)) (atI_nat (j := 3) rfl))) ea_nil) rc_int) (ev_op (k11.evlen (ev_var rfl)) ev_c rv_I0) (rv_mod (by omega))) ev_c rv_I0) (by rw [hiv2])) (T10.mono e11) k11 hg9 hivb2))) (fun z => nomatch z) fun _ H12 e12 => ?_
          exact ⟨xs', xs2', bs', _, _, _, rfl, (eH10.trans e11).trans e12, (T10.mono e11).mono e12, (U10.mono e11).mono e12, k11.mono e12, hg9, ⟨nd9, nk9, nr9, nr29⟩, hxl9, by omega, hfr9⟩
    · rintro σ' H4 ⟨xs, xs2, bs, y4, y5, y6, rfl, eH, T4, U4, k4, hg, ⟨nd, nk, nr, nr'⟩, hxl, hx2, hfr⟩
      rw [Int.toNat_natCast] at hxl hx2
      obtain ⟨dx, d, us0, h1, h2, h3⟩ := id T4.ex
      refine ⟨_, rfl, p, dx, _, rfl, h1, fld_no d r (by decide +kernel) (by decide +kernel) (by decide +kernel), ?_⟩
      refine ⟨p, r, xs, rfl, T4, fun us hus tl H5 ntl e5 htl => ?_⟩
      have hul : us.length = xs.length := Paired.length hus
      have k5 := k4.mono e5
      have eH5 := eH.trans e5
      dsimp only
      refine q_forR1 (n := (xs.length : Int)) (ea_cons (k5.evlen (ev_var rfl)) ea_nil) (by omega)
        (fun i σ' H' => ∃ y8 y9 y10, σ' = [some (.ref a), some (.ref p), some (.ref p2), some (.ref kp), y4, y5, y6, some (.ref tl), y8, y9, y10] ∧ Ex H5 H') (fun H6 e6 => ⟨_, _, _, rfl, e6⟩) ?_ ?_
      · rintro i σ' H6 hi ⟨y8, y9, y10, rfl, e6⟩
        have k6 := k5.mono e6
        have hj : i < xs.length := by omega
        have hx := List.getElem?_eq_getElem hj
        obtain ⟨b, ra, hbb, _, hra, hev⟩ := Kept.at_ (K := K) k6 hx
        have gx := hg _ (List.getElem_mem hj)
        generalize xs[i] = x at hx hra hev gx
        obtain ⟨v, hv, hrv⟩ := pair_at hus hx
        refine q_asg (hev (Ex.refl _) rfl (ev_var rfl) (ev_var rfl)).2.2 fun H7 e7 => ?_
        refine q_asg ev_c fun H8 e8 => ?_
        have e68 := e7.trans e8
        refine q_ifFin (b := x.2.isSome) (et_is (et_notN (ev_var rfl)) (by cases x.2 <;> rfl)) (fun σ' H' => ∃ w y9, σ' = [some (.ref a), some (.ref p), some (.ref p2), some (.ref kp), y4, y5, y6, some (.ref tl), some (.int (i : Int)), y9, some w] ∧ Ex H6 H' ∧ Dt H' w (dueD x)) (fun Tz hT hb H9 e9 => ?_) (fun hb H9 e9 => ?_) ?_
        · obtain ⟨l, hl⟩ := Option.isSome_iff_exists.mp hb
          have hl1 : lnV x.2 = .str (S l) := by rw [hl]; rfl
          refine s_asgU (xs := [.int ((key (fmtRc x.1) : Nat) : Int), .str (S l)]) (eu_tup (ea_cons (ev_c1 (a := fmtRc x.1) (ea_cons (ev_c2 (a := ra) (b := x.1) (ea_cons (hev (e68.trans e9) rfl (ev_var rfl) (ev_var rfl)).2.1 ea_nil) fun _ e => ⟨(hra.mono (e68.trans e9)).mono e, gx.f⟩) ea_nil) fun _ _ => gx.f.x) (ea_cons (ev_var (by rw [hl1]; rfl)) ea_nil)) (by show 2 ≤ 100000; decide)) fun t H10 nt e10 ht => hT _ _ ⟨.ref t, _, rfl, (e68.trans e9).trans e10, ?_⟩
          unfold dueD
          rw [hl]
          exact .tup ht (.cons (.int _) (.cons (.str _) .nil))
        · refine ⟨.non, _, rfl, e68.trans e9, ?_⟩
          unfold dueD
          rw [Option.isSome_eq_false_iff, Option.isNone_iff_eq_none] at hb
          rw [hb]
          exact .non
        · rintro σ' H9 ⟨w, y9', rfl, e9, hw⟩
          have e49 := (e5.trans e6).trans e9
          have hsh := shaped_due x gx.t
          refine s_when (b := false) (et_is (et_or (a := false) (b := false) (et_is (et_test (ev_neD (evd_of (ev_op (ev_var rfl) (ev_var rfl) (rv_ixL (sq_of (e9 _ _ (e6 _ _ htl))) (atI_nat' rfl hv))) ((dt_row hrv).mono e49)) (evd_of (ev_var rfl) hw) hsh hsh)) (by rw [eqv_self hsh]; rfl)) fun _ => et_not (a := true) (et_B (ev_one (i := (i : Int)) (ev_var rfl) (ev_var rfl) (ev_var rfl) (T4.mono e49) (k4.mono e49) hg (by omega)))) rfl) (fun z => nomatch z) fun _ H10 e10 => ⟨_, _, _, rfl, (e6.trans e9).trans e10⟩
      · rintro σ' H6 ⟨y8, y9, y10, rfl, e6⟩
        have k6 := k5.mono e6
        refine s_ret (ev_is (ev_andV (a := true) (b := true) (ev_is (ev_op (ev_len (ev_var rfl) (sq_of (e6 _ _ htl))) (k6.evlen (ev_var rfl)) rv_eqI) (by rw [hul, decide_eq_true rfl])) fun _ => ev_is (ev_op (ev_count rfl ((U4.mono e5).mono e6)) (ev_op (ev_op (hmin rfl (eH5.trans e6)) ev_c rv_I0) ev_c (rv_fdiv ⟨by decide, by decide⟩)) rv_eqI) (by rw [hx2, decide_eq_true (by omega)])) rfl) fun H7 e7 => q H7 ((eH5.trans e6).trans e7)
end

theorem all_mk {l : PySem.W.OpenLaw} {w : World} {K : PySem.W.Frag} {h : Heap} {mg : Str → Option Value} {fa : Addr} (X : K.In h) (G : h.Ns mainGlobals mg) (hfa : mg "law" = some (.ref fa))
    {f0 f1 f2 f3 f4 f5 f6 f7 f8 f9 f10 f11 f12 f13 f14 f15 f16 f17 f18 f19 f20 f21 f22 f23 f24 f25 f26 f27 f28 f29 f30 f31 f32 f33 f34 f35 f36 f37 f38 f39 f40 f41 f42 f43 : Addr} {od0 od1 od2 od3 od4 od5 od6 od7 od8 od9 od10 od11 od12 od13 od14 od15 od16 od17 od18 od19 od20 od21 od22 od23 od24 od25 od26 od27 od28 od29 od30 od31 od32 od33 od34 od35 od36 od37 od38 od39 od40 od41 od42 od43 an0 an1 an2 an3 an4 an5 an6 an7 an8 an9 an10 an11 an12 an13 an14 an15 an16 an17 an18 an19 an20 an21 an22 an23 an24 an25 an26 an27 an28 an29 an30 an31 an32 an33 an34 an35 an36 an37 an38 an39 an40 an41 an42 an43 : Option Addr} {sl0 sl1 sl2 sl3 sl4 sl5 sl6 sl7 sl8 sl9 sl10 sl11 sl12 sl13 sl14 sl15 sl16 sl17 sl18 sl19 sl20 sl21 sl22 sl23 sl24 sl25 sl26 sl27 sl28 sl29 sl30 sl31 sl32 sl33 sl34 sl35 sl36 sl37 sl38 sl39 sl40 sl41 sl42 sl43 : Array (Option Value)} {oc0 oc1 oc2 oc3 oc4 oc5 oc6 oc7 oc8 oc9 oc10 oc11 oc12 oc13 oc14 oc15 oc16 oc17 oc18 oc19 oc20 oc21 oc22 oc23 oc24 oc25 oc26 oc27 oc28 oc29 oc30 oc31 oc32 oc33 oc34 oc35 oc36 oc37 oc38 oc39 oc40 oc41 oc42 oc43 kV0 kV1 kV2 kV3 kV4 kV5 kV6 kV7 kV8 kV9 kV10 kV11 kV12 kV13 kV14 kV15 kV16 kV17 kV18 kV19 kV20 kV21 kV22 kV23 kV24 kV25 kV26 kV27 kV28 kV29 kV30 kV31 kV32 kV33 kV34 kV35 kV36 kV37 kV38 kV39 kV40 kV41 kV42 kV43 dc0 dc1 dc2 dc3 dc4 dc5 dc6 dc7 dc8 dc9 dc10 dc11 dc12 dc13 dc14 dc15 dc16 dc17 dc18 dc19 dc20 dc21 dc22 dc23 dc24 dc25 dc26 dc27 dc28 dc29 dc30 dc31 dc32 dc33 dc34 dc35 dc36 dc37 dc38 dc39 dc40 dc41 dc42 dc43 pm0 pm1 pm2 pm3 pm4 pm5 pm6 pm7 pm8 pm9 pm10 pm11 pm12 pm13 pm14 pm15 pm16 pm17 pm18 pm19 pm20 pm21 pm22 pm23 pm24 pm25 pm26 pm27 pm28 pm29 pm30 pm31 pm32 pm33 pm34 pm35 pm36 pm37 pm38 pm39 pm40 pm41 pm42 pm43 cd0 cd1 cd2 cd3 cd4 cd5 cd6 cd7 cd8 cd9 cd10 cd11 cd12 cd13 cd14 cd15 cd16 cd17 cd18 cd19 cd20 cd21 cd22 cd23 cd24 cd25 cd26 cd27 cd28 cd29 cd30 cd31 cd32 cd33 cd34 cd35 cd36 cd37 cd38 cd39 cd40 cd41 cd42 cd43 ct0 ct1 ct2 ct3 ct4 ct5 ct6 ct7 ct8 ct9 ct10 ct11 ct12 ct13 ct14 ct15 ct16 ct17 ct18 ct19 ct20 ct21 ct22 ct23 ct24 ct25 ct26 ct27 ct28 ct29 ct30 ct31 ct32 ct33 ct34 ct35 ct36 ct37 ct38 ct39 ct40 ct41 ct42 ct43 : Value}
    {C_Store : Addr}
    {C_Record : Addr}
    (aC_Store : PySem.W.nsIn K mainGlobals "Store" = some (some (.ref C_Store)))
    (pg_Store : PySem.W.plainGet K C_Store Str.empty = true)
    (hdi_Store : PySem.W.hasDictIn K C_Store = true)
    (po_Store : PySem.W.plainOver K C_Store = true)
    (sa_Store : PySem.W.findIn K (.ref C_Store) "__setattr__" = some (some (.builtin "object.__setattr__")))
    (mk_Store : PySem.W.makesIn K C_Store = true)
    (kc_Store : PySem.W.keepIn K (.ref C_Store) = true)
    (na_journal_Store : PySem.W.findIn K (.ref C_Store) "journal" = some none)
    (na__texts_Store : PySem.W.findIn K (.ref C_Store) "_texts" = some none)
    (na__rows_Store : PySem.W.findIn K (.ref C_Store) "_rows" = some none)
    (aC_Record : PySem.W.nsIn K mainGlobals "Record" = some (some (.ref C_Record)))
    (pg_Record : PySem.W.plainGet K C_Record Str.empty = true)
    (hdi_Record : PySem.W.hasDictIn K C_Record = true)
    (po_Record : PySem.W.plainOver K C_Record = true)
    (sa_Record : PySem.W.findIn K (.ref C_Record) "__setattr__" = some (some (.builtin "object.__setattr__")))
    (mk_Record : PySem.W.makesIn K C_Record = true)
    (kc_Record : PySem.W.keepIn K (.ref C_Record) = true)
    (na_outputs_Record : PySem.W.findIn K (.ref C_Record) "outputs" = some none)
    (na_rule_key_Record : PySem.W.findIn K (.ref C_Record) "rule_key" = some none)
    (na_needs_Record : PySem.W.findIn K (.ref C_Record) "needs" = some none)
    (na_results_Record : PySem.W.findIn K (.ref C_Record) "results" = some none)
    {XB : Addr}
    {X_InvalidRecord N_InvalidRecord_ : Addr} {nm_InvalidRecord q_InvalidRecord : Str} {bs_InvalidRecord : List Value} {sn_InvalidRecord : List Str} {sub_InvalidRecord : List Value} {ab_InvalidRecord : Bool} {col_InvalidRecord : Option Bool} {dd_InvalidRecord : Option Addr} {m0_InvalidRecord m1_InvalidRecord m2_InvalidRecord m3_InvalidRecord m5_InvalidRecord : Option Value}
    {X_NoSuchRecord N_NoSuchRecord_ : Addr} {nm_NoSuchRecord q_NoSuchRecord : Str} {bs_NoSuchRecord : List Value} {sn_NoSuchRecord : List Str} {sub_NoSuchRecord : List Value} {ab_NoSuchRecord : Bool} {col_NoSuchRecord : Option Bool} {dd_NoSuchRecord : Option Addr} {m0_NoSuchRecord m1_NoSuchRecord m2_NoSuchRecord m3_NoSuchRecord m5_NoSuchRecord : Option Value}
    {X_DamagedRecord N_DamagedRecord_ : Addr} {nm_DamagedRecord q_DamagedRecord : Str} {bs_DamagedRecord : List Value} {sn_DamagedRecord : List Str} {sub_DamagedRecord : List Value} {ab_DamagedRecord : Bool} {col_DamagedRecord : Option Bool} {dd_DamagedRecord : Option Addr} {m0_DamagedRecord m1_DamagedRecord m2_DamagedRecord m3_DamagedRecord m5_DamagedRecord : Option Value}
    {dT30 : Addr} {dc_30 : Value} {dod30 : Option Addr} {dn30 : Nat} {dsl30 : Array (Option Value)}
    {tk_MOST_NAMES tk_NAME_LENGTH tk_NAME_SIGNS tk_IDENTIFIER_LENGTH tk_LETTERS tk_IDENTIFIER_SIGNS tk_MOST_OUTPUTS tk_MOST_NEEDS tk_MOST_DIGITS tk_NOTHING tk_YES tk_NO : Tok}
    
    (aB : PySem.W.nsIn K mainGlobals "BuildError" = some (some (.ref XB)))
    (bsp : PySem.W.specialIn K (.ref XB) "__getattribute__" = some (some (.builtin "type.__getattribute__")))
    (brd : PySem.W.readsIn K XB (.type "type") = true)
    (bfi : PySem.W.findCls K (.ref XB) (.type "type") "__init__" = some (.val (.builtin "ValueError.__init__")))
    (bhd : PySem.W.hasDictIn K XB = true)
    (bty : PySem.W.typeIn K (.ref XB) = some (.type "type"))
    (xgs : PySem.W.specialIn K (.builtin "object.__class__") "__get__" = some (some (.builtin "getset_descriptor.__get__")))
    (xtk : PySem.W.takesIn K (.builtin "object.__class__") = some true)
    (xa_InvalidRecord : PySem.W.nsIn K mainGlobals "InvalidRecord" = some (some (.ref X_InvalidRecord)))
    (xL_InvalidRecord : K.lookup X_InvalidRecord = some (excClassObj nm_InvalidRecord q_InvalidRecord X_InvalidRecord N_InvalidRecord_ bs_InvalidRecord [.ref XB, .type "ValueError", .type "Exception", .type "BaseException", .type "object"] true sn_InvalidRecord sub_InvalidRecord ab_InvalidRecord col_InvalidRecord dd_InvalidRecord m0_InvalidRecord m1_InvalidRecord m2_InvalidRecord m3_InvalidRecord m5_InvalidRecord "ValueError.__new__"))
    (xsa_InvalidRecord : PySem.W.findIn K (.ref X_InvalidRecord) "__setattr__" = some (some (.builtin "object.__setattr__")))
    (xex_InvalidRecord : PySem.W.subIn K (.ref X_InvalidRecord) (.type "BaseException") = some true)
    (xty_InvalidRecord : PySem.W.typeIn K (.ref X_InvalidRecord) = some (.type "type"))
    (xkc_InvalidRecord : PySem.W.keepIn K (.ref X_InvalidRecord) = true)
    (xnline_InvalidRecord : PySem.W.findIn K (.ref X_InvalidRecord) "line" = some none)
    (xga_InvalidRecord : PySem.W.findIn K (.ref X_InvalidRecord) "__getattribute__" = some (some (.builtin "BaseException.__getattribute__")))
    (xgg_InvalidRecord : PySem.W.findIn K (.ref X_InvalidRecord) "__getattr__" = some none)
    (xhd_InvalidRecord : PySem.W.hasDictIn K X_InvalidRecord = true)
    (xcl_InvalidRecord : PySem.W.findIn K (.ref X_InvalidRecord) "__class__" = some (some (.builtin "object.__class__")))
    (xmr_InvalidRecord : PySem.W.mroIn K X_InvalidRecord (.type "object") = some true)
    (xcc_InvalidRecord : PySem.W.subIn K (.ref X_InvalidRecord) (.ref X_InvalidRecord) = some true)
    (xkB_InvalidRecord : PySem.W.subIn K (.ref X_InvalidRecord) (.ref XB) = some true)
    (xa_NoSuchRecord : PySem.W.nsIn K mainGlobals "NoSuchRecord" = some (some (.ref X_NoSuchRecord)))
    (xL_NoSuchRecord : K.lookup X_NoSuchRecord = some (excClassObj nm_NoSuchRecord q_NoSuchRecord X_NoSuchRecord N_NoSuchRecord_ bs_NoSuchRecord [.ref XB, .type "ValueError", .type "Exception", .type "BaseException", .type "object"] true sn_NoSuchRecord sub_NoSuchRecord ab_NoSuchRecord col_NoSuchRecord dd_NoSuchRecord m0_NoSuchRecord m1_NoSuchRecord m2_NoSuchRecord m3_NoSuchRecord m5_NoSuchRecord "ValueError.__new__"))
    (xsa_NoSuchRecord : PySem.W.findIn K (.ref X_NoSuchRecord) "__setattr__" = some (some (.builtin "object.__setattr__")))
    (xex_NoSuchRecord : PySem.W.subIn K (.ref X_NoSuchRecord) (.type "BaseException") = some true)
    (xty_NoSuchRecord : PySem.W.typeIn K (.ref X_NoSuchRecord) = some (.type "type"))
    (xkc_NoSuchRecord : PySem.W.keepIn K (.ref X_NoSuchRecord) = true)
    (xnindex_NoSuchRecord : PySem.W.findIn K (.ref X_NoSuchRecord) "index" = some none)
    (xga_NoSuchRecord : PySem.W.findIn K (.ref X_NoSuchRecord) "__getattribute__" = some (some (.builtin "BaseException.__getattribute__")))
    (xgg_NoSuchRecord : PySem.W.findIn K (.ref X_NoSuchRecord) "__getattr__" = some none)
    (xhd_NoSuchRecord : PySem.W.hasDictIn K X_NoSuchRecord = true)
    (xcl_NoSuchRecord : PySem.W.findIn K (.ref X_NoSuchRecord) "__class__" = some (some (.builtin "object.__class__")))
    (xmr_NoSuchRecord : PySem.W.mroIn K X_NoSuchRecord (.type "object") = some true)
    (xcc_NoSuchRecord : PySem.W.subIn K (.ref X_NoSuchRecord) (.ref X_NoSuchRecord) = some true)
    (xkB_NoSuchRecord : PySem.W.subIn K (.ref X_NoSuchRecord) (.ref XB) = some true)
    (xa_DamagedRecord : PySem.W.nsIn K mainGlobals "DamagedRecord" = some (some (.ref X_DamagedRecord)))
    (xL_DamagedRecord : K.lookup X_DamagedRecord = some (excClassObj nm_DamagedRecord q_DamagedRecord X_DamagedRecord N_DamagedRecord_ bs_DamagedRecord [.ref XB, .type "ValueError", .type "Exception", .type "BaseException", .type "object"] true sn_DamagedRecord sub_DamagedRecord ab_DamagedRecord col_DamagedRecord dd_DamagedRecord m0_DamagedRecord m1_DamagedRecord m2_DamagedRecord m3_DamagedRecord m5_DamagedRecord "ValueError.__new__"))
    (xsa_DamagedRecord : PySem.W.findIn K (.ref X_DamagedRecord) "__setattr__" = some (some (.builtin "object.__setattr__")))
    (xex_DamagedRecord : PySem.W.subIn K (.ref X_DamagedRecord) (.type "BaseException") = some true)
    (xty_DamagedRecord : PySem.W.typeIn K (.ref X_DamagedRecord) = some (.type "type"))
    (xkc_DamagedRecord : PySem.W.keepIn K (.ref X_DamagedRecord) = true)
    (xnindex_DamagedRecord : PySem.W.findIn K (.ref X_DamagedRecord) "index" = some none)
    (xga_DamagedRecord : PySem.W.findIn K (.ref X_DamagedRecord) "__getattribute__" = some (some (.builtin "BaseException.__getattribute__")))
    (xgg_DamagedRecord : PySem.W.findIn K (.ref X_DamagedRecord) "__getattr__" = some none)
    (xhd_DamagedRecord : PySem.W.hasDictIn K X_DamagedRecord = true)
    (xcl_DamagedRecord : PySem.W.findIn K (.ref X_DamagedRecord) "__class__" = some (some (.builtin "object.__class__")))
    (xmr_DamagedRecord : PySem.W.mroIn K X_DamagedRecord (.type "object") = some true)
    (xcc_DamagedRecord : PySem.W.subIn K (.ref X_DamagedRecord) (.ref X_DamagedRecord) = some true)
    (xkB_DamagedRecord : PySem.W.subIn K (.ref X_DamagedRecord) (.ref XB) = some true)
    (xp_DamagedRecord_NoSuchRecord : PySem.W.subIn K (.ref X_DamagedRecord) (.ref X_NoSuchRecord) = some false)
    (a0 : PySem.W.findIn K (.ref X_InvalidRecord) "__init__" = some (some (.ref f0)))
    (i0 : PySem.W.typeIn K (.ref f0) = some (.type "function"))
    (l0 : K.lookup f0 = some ⟨oc0, od0, .func (PySem.W.fnOf "__init__" "InvalidRecord.__init__" (defArgs s_InvalidRecord___init__) (defBody s_InvalidRecord___init__) (defScope s_InvalidRecord___init__) .none kV0 dc0 pm0 an0 cd0 ct0), sl0⟩)
    (c0 : PySem.W.codeIn K cd0 "InvalidRecord.__init__" = true)
    (k0 : PySem.W.keepIn K (.ref f0) = true)
    (a1 : PySem.W.findIn K (.ref X_NoSuchRecord) "__init__" = some (some (.ref f1)))
    (i1 : PySem.W.typeIn K (.ref f1) = some (.type "function"))
    (l1 : K.lookup f1 = some ⟨oc1, od1, .func (PySem.W.fnOf "__init__" "NoSuchRecord.__init__" (defArgs s_NoSuchRecord___init__) (defBody s_NoSuchRecord___init__) (defScope s_NoSuchRecord___init__) .none kV1 dc1 pm1 an1 cd1 ct1), sl1⟩)
    (c1 : PySem.W.codeIn K cd1 "NoSuchRecord.__init__" = true)
    (k1 : PySem.W.keepIn K (.ref f1) = true)
    (a2 : PySem.W.findIn K (.ref X_DamagedRecord) "__init__" = some (some (.ref f2)))
    (i2 : PySem.W.typeIn K (.ref f2) = some (.type "function"))
    (l2 : K.lookup f2 = some ⟨oc2, od2, .func (PySem.W.fnOf "__init__" "DamagedRecord.__init__" (defArgs s_DamagedRecord___init__) (defBody s_DamagedRecord___init__) (defScope s_DamagedRecord___init__) .none kV2 dc2 pm2 an2 cd2 ct2), sl2⟩)
    (c2 : PySem.W.codeIn K cd2 "DamagedRecord.__init__" = true)
    (k2 : PySem.W.keepIn K (.ref f2) = true)
    (a3 : PySem.W.nsIn K mainGlobals "content_key" = some (some (.ref f3)))
    (l3 : K.lookup f3 = some ⟨oc3, od3, .func (PySem.W.fnOf "content_key" "content_key" (defArgs s_content_key) (defBody s_content_key) (defScope s_content_key) .none kV3 dc3 pm3 an3 cd3 ct3), sl3⟩)
    (c3 : PySem.W.codeIn K cd3 "content_key" = true)
    (k3 : PySem.W.keepIn K (.ref f3) = true)
    (a4 : PySem.W.nsIn K mainGlobals "_is_name" = some (some (.ref f4)))
    (l4 : K.lookup f4 = some ⟨oc4, od4, .func (PySem.W.fnOf "_is_name" "_is_name" (defArgs s__is_name) (defBody s__is_name) (defScope s__is_name) .none kV4 dc4 pm4 an4 cd4 ct4), sl4⟩)
    (c4 : PySem.W.codeIn K cd4 "_is_name" = true)
    (k4 : PySem.W.keepIn K (.ref f4) = true)
    (a5 : PySem.W.nsIn K mainGlobals "is_path" = some (some (.ref f5)))
    (l5 : K.lookup f5 = some ⟨oc5, od5, .func (PySem.W.fnOf "is_path" "is_path" (defArgs s_is_path) (defBody s_is_path) (defScope s_is_path) .none kV5 dc5 pm5 an5 cd5 ct5), sl5⟩)
    (c5 : PySem.W.codeIn K cd5 "is_path" = true)
    (k5 : PySem.W.keepIn K (.ref f5) = true)
    (a6 : PySem.W.nsIn K mainGlobals "is_pattern" = some (some (.ref f6)))
    (l6 : K.lookup f6 = some ⟨oc6, od6, .func (PySem.W.fnOf "is_pattern" "is_pattern" (defArgs s_is_pattern) (defBody s_is_pattern) (defScope s_is_pattern) .none kV6 dc6 pm6 an6 cd6 ct6), sl6⟩)
    (c6 : PySem.W.codeIn K cd6 "is_pattern" = true)
    (k6 : PySem.W.keepIn K (.ref f6) = true)
    (a7 : PySem.W.nsIn K mainGlobals "is_name_pattern" = some (some (.ref f7)))
    (l7 : K.lookup f7 = some ⟨oc7, od7, .func (PySem.W.fnOf "is_name_pattern" "is_name_pattern" (defArgs s_is_name_pattern) (defBody s_is_name_pattern) (defScope s_is_name_pattern) .none kV7 dc7 pm7 an7 cd7 ct7), sl7⟩)
    (c7 : PySem.W.codeIn K cd7 "is_name_pattern" = true)
    (k7 : PySem.W.keepIn K (.ref f7) = true)
    (a8 : PySem.W.nsIn K mainGlobals "is_identifier" = some (some (.ref f8)))
    (l8 : K.lookup f8 = some ⟨oc8, od8, .func (PySem.W.fnOf "is_identifier" "is_identifier" (defArgs s_is_identifier) (defBody s_is_identifier) (defScope s_is_identifier) .none kV8 dc8 pm8 an8 cd8 ct8), sl8⟩)
    (c8 : PySem.W.codeIn K cd8 "is_identifier" = true)
    (k8 : PySem.W.keepIn K (.ref f8) = true)
    (a9 : PySem.W.findIn K (.ref C_Record) "__init__" = some (some (.ref f9)))
    (i9 : PySem.W.isFn K (.ref f9) = true)
    (l9 : K.lookup f9 = some ⟨oc9, od9, .func (PySem.W.fnOf "__init__" "Record.__init__" (defArgs s_Record___init__) (defBody s_Record___init__) (defScope s_Record___init__) .none kV9 dc9 pm9 an9 cd9 ct9), sl9⟩)
    (c9 : PySem.W.codeIn K cd9 "Record.__init__" = true)
    (k9 : PySem.W.keepIn K (.ref f9) = true)
    (a10 : PySem.W.nsIn K mainGlobals "question" = some (some (.ref f10)))
    (l10 : K.lookup f10 = some ⟨oc10, od10, .func (PySem.W.fnOf "question" "question" (defArgs s_question) (defBody s_question) (defScope s_question) .none kV10 dc10 pm10 an10 cd10 ct10), sl10⟩)
    (c10 : PySem.W.codeIn K cd10 "question" = true)
    (k10 : PySem.W.keepIn K (.ref f10) = true)
    (a11 : PySem.W.nsIn K mainGlobals "_format_seen" = some (some (.ref f11)))
    (l11 : K.lookup f11 = some ⟨oc11, od11, .func (PySem.W.fnOf "_format_seen" "_format_seen" (defArgs s__format_seen) (defBody s__format_seen) (defScope s__format_seen) .none kV11 dc11 pm11 an11 cd11 ct11), sl11⟩)
    (c11 : PySem.W.codeIn K cd11 "_format_seen" = true)
    (k11 : PySem.W.keepIn K (.ref f11) = true)
    (a12 : PySem.W.nsIn K mainGlobals "_format_need" = some (some (.ref f12)))
    (l12 : K.lookup f12 = some ⟨oc12, od12, .func (PySem.W.fnOf "_format_need" "_format_need" (defArgs s__format_need) (defBody s__format_need) (defScope s__format_need) .none kV12 dc12 pm12 an12 cd12 ct12), sl12⟩)
    (c12 : PySem.W.codeIn K cd12 "_format_need" = true)
    (k12 : PySem.W.keepIn K (.ref f12) = true)
    (a13 : PySem.W.nsIn K mainGlobals "format_record" = some (some (.ref f13)))
    (l13 : K.lookup f13 = some ⟨oc13, od13, .func (PySem.W.fnOf "format_record" "format_record" (defArgs s_format_record) (defBody s_format_record) (defScope s_format_record) .none kV13 dc13 pm13 an13 cd13 ct13), sl13⟩)
    (c13 : PySem.W.codeIn K cd13 "format_record" = true)
    (k13 : PySem.W.keepIn K (.ref f13) = true)
    (a14 : PySem.W.nsIn K mainGlobals "_is_number" = some (some (.ref f14)))
    (l14 : K.lookup f14 = some ⟨oc14, od14, .func (PySem.W.fnOf "_is_number" "_is_number" (defArgs s__is_number) (defBody s__is_number) (defScope s__is_number) .none kV14 dc14 pm14 an14 cd14 ct14), sl14⟩)
    (c14 : PySem.W.codeIn K cd14 "_is_number" = true)
    (k14 : PySem.W.keepIn K (.ref f14) = true)
    (a15 : PySem.W.nsIn K mainGlobals "_is_number_or_nothing" = some (some (.ref f15)))
    (l15 : K.lookup f15 = some ⟨oc15, od15, .func (PySem.W.fnOf "_is_number_or_nothing" "_is_number_or_nothing" (defArgs s__is_number_or_nothing) (defBody s__is_number_or_nothing) (defScope s__is_number_or_nothing) .none kV15 dc15 pm15 an15 cd15 ct15), sl15⟩)
    (c15 : PySem.W.codeIn K cd15 "_is_number_or_nothing" = true)
    (k15 : PySem.W.keepIn K (.ref f15) = true)
    (a16 : PySem.W.nsIn K mainGlobals "_is_folder" = some (some (.ref f16)))
    (l16 : K.lookup f16 = some ⟨oc16, od16, .func (PySem.W.fnOf "_is_folder" "_is_folder" (defArgs s__is_folder) (defBody s__is_folder) (defScope s__is_folder) .none kV16 dc16 pm16 an16 cd16 ct16), sl16⟩)
    (c16 : PySem.W.codeIn K cd16 "_is_folder" = true)
    (k16 : PySem.W.keepIn K (.ref f16) = true)
    (a17 : PySem.W.nsIn K mainGlobals "_is_need" = some (some (.ref f17)))
    (l17 : K.lookup f17 = some ⟨oc17, od17, .func (PySem.W.fnOf "_is_need" "_is_need" (defArgs s__is_need) (defBody s__is_need) (defScope s__is_need) .none kV17 dc17 pm17 an17 cd17 ct17), sl17⟩)
    (c17 : PySem.W.codeIn K cd17 "_is_need" = true)
    (k17 : PySem.W.keepIn K (.ref f17) = true)
    (a18 : PySem.W.nsIn K mainGlobals "_are_outputs" = some (some (.ref f18)))
    (l18 : K.lookup f18 = some ⟨oc18, od18, .func (PySem.W.fnOf "_are_outputs" "_are_outputs" (defArgs s__are_outputs) (defBody s__are_outputs) (defScope s__are_outputs) .none kV18 dc18 pm18 an18 cd18 ct18), sl18⟩)
    (c18 : PySem.W.codeIn K cd18 "_are_outputs" = true)
    (k18 : PySem.W.keepIn K (.ref f18) = true)
    (a19 : PySem.W.nsIn K mainGlobals "_are_needs" = some (some (.ref f19)))
    (l19 : K.lookup f19 = some ⟨oc19, od19, .func (PySem.W.fnOf "_are_needs" "_are_needs" (defArgs s__are_needs) (defBody s__are_needs) (defScope s__are_needs) .none kV19 dc19 pm19 an19 cd19 ct19), sl19⟩)
    (c19 : PySem.W.codeIn K cd19 "_are_needs" = true)
    (k19 : PySem.W.keepIn K (.ref f19) = true)
    (a20 : PySem.W.nsIn K mainGlobals "_parse_seen" = some (some (.ref f20)))
    (l20 : K.lookup f20 = some ⟨oc20, od20, .func (PySem.W.fnOf "_parse_seen" "_parse_seen" (defArgs s__parse_seen) (defBody s__parse_seen) (defScope s__parse_seen) .none kV20 dc20 pm20 an20 cd20 ct20), sl20⟩)
    (c20 : PySem.W.codeIn K cd20 "_parse_seen" = true)
    (k20 : PySem.W.keepIn K (.ref f20) = true)
    (a21 : PySem.W.nsIn K mainGlobals "_parse_need" = some (some (.ref f21)))
    (l21 : K.lookup f21 = some ⟨oc21, od21, .func (PySem.W.fnOf "_parse_need" "_parse_need" (defArgs s__parse_need) (defBody s__parse_need) (defScope s__parse_need) .none kV21 dc21 pm21 an21 cd21 ct21), sl21⟩)
    (c21 : PySem.W.codeIn K cd21 "_parse_need" = true)
    (k21 : PySem.W.keepIn K (.ref f21) = true)
    (a22 : PySem.W.nsIn K mainGlobals "parse_record" = some (some (.ref f22)))
    (l22 : K.lookup f22 = some ⟨oc22, od22, .func (PySem.W.fnOf "parse_record" "parse_record" (defArgs s_parse_record) (defBody s_parse_record) (defScope s_parse_record) .none kV22 dc22 pm22 an22 cd22 ct22), sl22⟩)
    (c22 : PySem.W.codeIn K cd22 "parse_record" = true)
    (k22 : PySem.W.keepIn K (.ref f22) = true)
    (a23 : PySem.W.nsIn K mainGlobals "_law_cell" = some (some (.ref f23)))
    (l23 : K.lookup f23 = some ⟨oc23, od23, .func (PySem.W.fnOf "_law_cell" "_law_cell" (defArgs s__law_cell) (defBody s__law_cell) (defScope s__law_cell) .none kV23 dc23 pm23 an23 cd23 ct23), sl23⟩)
    (c23 : PySem.W.codeIn K cd23 "_law_cell" = true)
    (k23 : PySem.W.keepIn K (.ref f23) = true)
    (a24 : PySem.W.nsIn K mainGlobals "_law_numbers" = some (some (.ref f24)))
    (l24 : K.lookup f24 = some ⟨oc24, od24, .func (PySem.W.fnOf "_law_numbers" "_law_numbers" (defArgs s__law_numbers) (defBody s__law_numbers) (defScope s__law_numbers) .none kV24 dc24 pm24 an24 cd24 ct24), sl24⟩)
    (c24 : PySem.W.codeIn K cd24 "_law_numbers" = true)
    (k24 : PySem.W.keepIn K (.ref f24) = true)
    (a25 : PySem.W.nsIn K mainGlobals "_law_path" = some (some (.ref f25)))
    (l25 : K.lookup f25 = some ⟨oc25, od25, .func (PySem.W.fnOf "_law_path" "_law_path" (defArgs s__law_path) (defBody s__law_path) (defScope s__law_path) .none kV25 dc25 pm25 an25 cd25 ct25), sl25⟩)
    (c25 : PySem.W.codeIn K cd25 "_law_path" = true)
    (k25 : PySem.W.keepIn K (.ref f25) = true)
    (a26 : PySem.W.nsIn K mainGlobals "_law_text" = some (some (.ref f26)))
    (l26 : K.lookup f26 = some ⟨oc26, od26, .func (PySem.W.fnOf "_law_text" "_law_text" (defArgs s__law_text) (defBody s__law_text) (defScope s__law_text) .none kV26 dc26 pm26 an26 cd26 ct26), sl26⟩)
    (c26 : PySem.W.codeIn K cd26 "_law_text" = true)
    (k26 : PySem.W.keepIn K (.ref f26) = true)
    (a27 : PySem.W.nsIn K mainGlobals "_law_need" = some (some (.ref f27)))
    (l27 : K.lookup f27 = some ⟨oc27, od27, .func (PySem.W.fnOf "_law_need" "_law_need" (defArgs s__law_need) (defBody s__law_need) (defScope s__law_need) .none kV27 dc27 pm27 an27 cd27 ct27), sl27⟩)
    (c27 : PySem.W.codeIn K cd27 "_law_need" = true)
    (k27 : PySem.W.keepIn K (.ref f27) = true)
    (a28 : PySem.W.nsIn K mainGlobals "_law_record" = some (some (.ref f28)))
    (l28 : K.lookup f28 = some ⟨oc28, od28, .func (PySem.W.fnOf "_law_record" "_law_record" (defArgs s__law_record) (defBody s__law_record) (defScope s__law_record) .none kV28 dc28 pm28 an28 cd28 ct28), sl28⟩)
    (c28 : PySem.W.codeIn K cd28 "_law_record" = true)
    (k28 : PySem.W.keepIn K (.ref f28) = true)
    (a29 : PySem.W.findIn K (.ref C_Record) "__eq__" = some (some (.ref f29)))
    (i29 : PySem.W.isFn K (.ref f29) = true)
    (l29 : K.lookup f29 = some ⟨oc29, od29, .func (PySem.W.fnOf "__eq__" "Record.__eq__" (defArgs s_Record___eq__) (defBody s_Record___eq__) (defScope s_Record___eq__) .none kV29 dc29 pm29 an29 cd29 ct29), sl29⟩)
    (c29 : PySem.W.codeIn K cd29 "Record.__eq__" = true)
    (k29 : PySem.W.keepIn K (.ref f29) = true)
    (a30 : PySem.W.findIn K (.ref C_Store) "__init__" = some (some (.ref f30)))
    (i30 : PySem.W.isFn K (.ref f30) = true)
    (l30 : K.lookup f30 = some ⟨oc30, od30, .func (PySem.W.fnOf "__init__" "Store.__init__" (defArgs s_Store___init__) (defBody s_Store___init__) (defScope s_Store___init__) (.ref dT30) kV30 dc30 pm30 an30 cd30 ct30), sl30⟩)
    (dl30 : K.lookup dT30 = some ⟨dc_30, dod30, .seq #[.none] dn30, dsl30⟩)
    (c30 : PySem.W.codeIn K cd30 "Store.__init__" = true)
    (k30 : PySem.W.keepIn K (.ref f30) = true)
    (a31 : PySem.W.nsIn K mainGlobals "_read_row" = some (some (.ref f31)))
    (l31 : K.lookup f31 = some ⟨oc31, od31, .func (PySem.W.fnOf "_read_row" "_read_row" (defArgs s__read_row) (defBody s__read_row) (defScope s__read_row) .none kV31 dc31 pm31 an31 cd31 ct31), sl31⟩)
    (c31 : PySem.W.codeIn K cd31 "_read_row" = true)
    (k31 : PySem.W.keepIn K (.ref f31) = true)
    (a32 : PySem.W.findIn K (.ref C_Store) "add_record" = some (some (.ref f32)))
    (i32 : PySem.W.isFn K (.ref f32) = true)
    (l32 : K.lookup f32 = some ⟨oc32, od32, .func (PySem.W.fnOf "add_record" "Store.add_record" (defArgs s_Store_add_record) (defBody s_Store_add_record) (defScope s_Store_add_record) .none kV32 dc32 pm32 an32 cd32 ct32), sl32⟩)
    (c32 : PySem.W.codeIn K cd32 "Store.add_record" = true)
    (k32 : PySem.W.keepIn K (.ref f32) = true)
    (a33 : PySem.W.findIn K (.ref C_Store) "_check_kept" = some (some (.ref f33)))
    (i33 : PySem.W.isFn K (.ref f33) = true)
    (l33 : K.lookup f33 = some ⟨oc33, od33, .func (PySem.W.fnOf "_check_kept" "Store._check_kept" (defArgs s_Store__check_kept) (defBody s_Store__check_kept) (defScope s_Store__check_kept) .none kV33 dc33 pm33 an33 cd33 ct33), sl33⟩)
    (c33 : PySem.W.codeIn K cd33 "Store._check_kept" = true)
    (k33 : PySem.W.keepIn K (.ref f33) = true)
    (a34 : PySem.W.findIn K (.ref C_Store) "record" = some (some (.ref f34)))
    (i34 : PySem.W.isFn K (.ref f34) = true)
    (l34 : K.lookup f34 = some ⟨oc34, od34, .func (PySem.W.fnOf "record" "Store.record" (defArgs s_Store_record) (defBody s_Store_record) (defScope s_Store_record) .none kV34 dc34 pm34 an34 cd34 ct34), sl34⟩)
    (c34 : PySem.W.codeIn K cd34 "Store.record" = true)
    (k34 : PySem.W.keepIn K (.ref f34) = true)
    (a35 : PySem.W.findIn K (.ref C_Store) "find_records" = some (some (.ref f35)))
    (i35 : PySem.W.isFn K (.ref f35) = true)
    (l35 : K.lookup f35 = some ⟨oc35, od35, .func (PySem.W.fnOf "find_records" "Store.find_records" (defArgs s_Store_find_records) (defBody s_Store_find_records) (defScope s_Store_find_records) .none kV35 dc35 pm35 an35 cd35 ct35), sl35⟩)
    (c35 : PySem.W.codeIn K cd35 "Store.find_records" = true)
    (k35 : PySem.W.keepIn K (.ref f35) = true)
    (a36 : PySem.W.findIn K (.ref C_Store) "lose_record" = some (some (.ref f36)))
    (i36 : PySem.W.isFn K (.ref f36) = true)
    (l36 : K.lookup f36 = some ⟨oc36, od36, .func (PySem.W.fnOf "lose_record" "Store.lose_record" (defArgs s_Store_lose_record) (defBody s_Store_lose_record) (defScope s_Store_lose_record) .none kV36 dc36 pm36 an36 cd36 ct36), sl36⟩)
    (c36 : PySem.W.codeIn K cd36 "Store.lose_record" = true)
    (k36 : PySem.W.keepIn K (.ref f36) = true)
    (a37 : PySem.W.findIn K (.ref C_Store) "damage_record" = some (some (.ref f37)))
    (i37 : PySem.W.isFn K (.ref f37) = true)
    (l37 : K.lookup f37 = some ⟨oc37, od37, .func (PySem.W.fnOf "damage_record" "Store.damage_record" (defArgs s_Store_damage_record) (defBody s_Store_damage_record) (defScope s_Store_damage_record) .none kV37 dc37 pm37 an37 cd37 ct37), sl37⟩)
    (c37 : PySem.W.codeIn K cd37 "Store.damage_record" = true)
    (k37 : PySem.W.keepIn K (.ref f37) = true)
    (a38 : PySem.W.findIn K (.ref C_Store) "record_count" = some (some (.ref f38)))
    (i38 : PySem.W.isFn K (.ref f38) = true)
    (l38 : K.lookup f38 = some ⟨oc38, od38, .func (PySem.W.fnOf "record_count" "Store.record_count" (defArgs s_Store_record_count) (defBody s_Store_record_count) (defScope s_Store_record_count) .none kV38 dc38 pm38 an38 cd38 ct38), sl38⟩)
    (c38 : PySem.W.codeIn K cd38 "Store.record_count" = true)
    (k38 : PySem.W.keepIn K (.ref f38) = true)
    (a39 : PySem.W.findIn K (.ref C_Store) "kept_records" = some (some (.ref f39)))
    (i39 : PySem.W.isFn K (.ref f39) = true)
    (l39 : K.lookup f39 = some ⟨oc39, od39, .func (PySem.W.fnOf "kept_records" "Store.kept_records" (defArgs s_Store_kept_records) (defBody s_Store_kept_records) (defScope s_Store_kept_records) .none kV39 dc39 pm39 an39 cd39 ct39), sl39⟩)
    (c39 : PySem.W.codeIn K cd39 "Store.kept_records" = true)
    (k39 : PySem.W.keepIn K (.ref f39) = true)
    (a40 : PySem.W.nsIn K mainGlobals "_law_one" = some (some (.ref f40)))
    (l40 : K.lookup f40 = some ⟨oc40, od40, .func (PySem.W.fnOf "_law_one" "_law_one" (defArgs s__law_one) (defBody s__law_one) (defScope s__law_one) .none kV40 dc40 pm40 an40 cd40 ct40), sl40⟩)
    (c40 : PySem.W.codeIn K cd40 "_law_one" = true)
    (k40 : PySem.W.keepIn K (.ref f40) = true)
    (a41 : PySem.W.nsIn K mainGlobals "_law_found" = some (some (.ref f41)))
    (l41 : K.lookup f41 = some ⟨oc41, od41, .func (PySem.W.fnOf "_law_found" "_law_found" (defArgs s__law_found) (defBody s__law_found) (defScope s__law_found) .none kV41 dc41 pm41 an41 cd41 ct41), sl41⟩)
    (c41 : PySem.W.codeIn K cd41 "_law_found" = true)
    (k41 : PySem.W.keepIn K (.ref f41) = true)
    (a42 : PySem.W.nsIn K mainGlobals "_law_harm" = some (some (.ref f42)))
    (l42 : K.lookup f42 = some ⟨oc42, od42, .func (PySem.W.fnOf "_law_harm" "_law_harm" (defArgs s__law_harm) (defBody s__law_harm) (defScope s__law_harm) .none kV42 dc42 pm42 an42 cd42 ct42), sl42⟩)
    (c42 : PySem.W.codeIn K cd42 "_law_harm" = true)
    (k42 : PySem.W.keepIn K (.ref f42) = true)
    (a43 : PySem.W.nsIn K mainGlobals "law" = some (some (.ref f43)))
    (l43 : K.lookup f43 = some ⟨oc43, od43, .func (PySem.W.fnOf "law" "law" (defArgs s_law) (defBody s_law) (defScope s_law) .none kV43 dc43 pm43 an43 cd43 ct43), sl43⟩)
    (c43 : PySem.W.codeIn K cd43 "law" = true)
    (k43 : PySem.W.keepIn K (.ref f43) = true)
    (zb_abs : PySem.W.nsIn K mainGlobals "abs" = some none)
    (zb_all : PySem.W.nsIn K mainGlobals "all" = some none)
    (zb_enumerate : PySem.W.nsIn K mainGlobals "enumerate" = some none)
    (zb_int : PySem.W.nsIn K mainGlobals "int" = some none)
    (zb_isinstance : PySem.W.nsIn K mainGlobals "isinstance" = some none)
    (zb_len : PySem.W.nsIn K mainGlobals "len" = some none)
    (zb_list : PySem.W.nsIn K mainGlobals "list" = some none)
    (zb_max : PySem.W.nsIn K mainGlobals "max" = some none)
    (zb_min : PySem.W.nsIn K mainGlobals "min" = some none)
    (zb_ord : PySem.W.nsIn K mainGlobals "ord" = some none)
    (zb_range : PySem.W.nsIn K mainGlobals "range" = some none)
    (zb_set : PySem.W.nsIn K mainGlobals "set" = some none)
    (zb_str : PySem.W.nsIn K mainGlobals "str" = some none)
    (zb_tuple : PySem.W.nsIn K mainGlobals "tuple" = some none)
    (zc_MOST_NAMES : PySem.W.nsIn K mainGlobals "MOST_NAMES" = some (some (.int 4 tk_MOST_NAMES)))
    (zc_NAME_LENGTH : PySem.W.nsIn K mainGlobals "NAME_LENGTH" = some (some (.int 12 tk_NAME_LENGTH)))
    (zc_NAME_SIGNS : PySem.W.nsIn K mainGlobals "NAME_SIGNS" = some (some (.str (Str.ofString "abcdefghijklmnopqrstuvwxyz0123456789_.") tk_NAME_SIGNS)))
    (zc_IDENTIFIER_LENGTH : PySem.W.nsIn K mainGlobals "IDENTIFIER_LENGTH" = some (some (.int 12 tk_IDENTIFIER_LENGTH)))
    (zc_LETTERS : PySem.W.nsIn K mainGlobals "LETTERS" = some (some (.str (Str.ofString "abcdefghijklmnopqrstuvwxyz") tk_LETTERS)))
    (zc_IDENTIFIER_SIGNS : PySem.W.nsIn K mainGlobals "IDENTIFIER_SIGNS" = some (some (.str (Str.ofString "abcdefghijklmnopqrstuvwxyz0123456789_") tk_IDENTIFIER_SIGNS)))
    (zc_MOST_OUTPUTS : PySem.W.nsIn K mainGlobals "MOST_OUTPUTS" = some (some (.int 3 tk_MOST_OUTPUTS)))
    (zc_MOST_NEEDS : PySem.W.nsIn K mainGlobals "MOST_NEEDS" = some (some (.int 60 tk_MOST_NEEDS)))
    (zc_MOST_DIGITS : PySem.W.nsIn K mainGlobals "MOST_DIGITS" = some (some (.int 4000 tk_MOST_DIGITS)))
    (zc_NOTHING : PySem.W.nsIn K mainGlobals "NOTHING" = some (some (.str (Str.ofString "-") tk_NOTHING)))
    (zc_YES : PySem.W.nsIn K mainGlobals "YES" = some (some (.str (Str.ofString "yes") tk_YES)))
    (zc_NO : PySem.W.nsIn K mainGlobals "NO" = some (some (.str (Str.ofString "no") tk_NO)))
    (hdig : PySem.W.nsIn K cStatics "sys.int_max_str_digits" = some none)
    (tyR : PySem.W.typeIn K (.ref C_Record) = some (.type "type"))
    (ccR : PySem.W.subIn K (.ref C_Record) (.ref C_Record) = some true)
    (clR : PySem.W.findIn K (.ref C_Record) "__class__" = some (some (.builtin "object.__class__")))
    (mrR : PySem.W.mroIn K C_Record (.type "object") = some true)
    : ∃ fd : FuncData, (∀ (s : Shared) (v : Value), BindsTo s fd ⟨[v], []⟩ [("script", v)]) ∧ ∀ base : Heap, K.In base → base.Ns mainGlobals mg → FnOk l.prog w K mg base CX0 11 fa fd ["script"] (sp_law K) := by
  cases hfa.symm.trans (PySem.W.mg_of X G a43)
  have T : Tx mg := ⟨PySem.W.mg_none_of X G zb_abs, PySem.W.mg_none_of X G zb_all, PySem.W.mg_none_of X G zb_enumerate, PySem.W.mg_none_of X G zb_int, PySem.W.mg_none_of X G zb_isinstance, PySem.W.mg_none_of X G zb_len, PySem.W.mg_none_of X G zb_list, PySem.W.mg_none_of X G zb_max, PySem.W.mg_none_of X G zb_min, PySem.W.mg_none_of X G zb_ord, PySem.W.mg_none_of X G zb_range, PySem.W.mg_none_of X G zb_set, PySem.W.mg_none_of X G zb_str, PySem.W.mg_none_of X G zb_tuple, ⟨_, PySem.W.mg_of X G zc_MOST_NAMES, ⟨_, rfl⟩⟩, ⟨_, PySem.W.mg_of X G zc_NAME_LENGTH, ⟨_, rfl⟩⟩, ⟨_, PySem.W.mg_of X G zc_NAME_SIGNS, ⟨_, rfl⟩⟩, ⟨_, PySem.W.mg_of X G zc_IDENTIFIER_LENGTH, ⟨_, rfl⟩⟩, ⟨_, PySem.W.mg_of X G zc_LETTERS, ⟨_, rfl⟩⟩, ⟨_, PySem.W.mg_of X G zc_IDENTIFIER_SIGNS, ⟨_, rfl⟩⟩, ⟨_, PySem.W.mg_of X G zc_MOST_OUTPUTS, ⟨_, rfl⟩⟩, ⟨_, PySem.W.mg_of X G zc_MOST_NEEDS, ⟨_, rfl⟩⟩, ⟨_, PySem.W.mg_of X G zc_MOST_DIGITS, ⟨_, rfl⟩⟩, ⟨_, PySem.W.mg_of X G zc_NOTHING, ⟨_, rfl⟩⟩, ⟨_, PySem.W.mg_of X G zc_YES, ⟨_, rfl⟩⟩, ⟨_, PySem.W.mg_of X G zc_NO, ⟨_, rfl⟩⟩⟩
  have TC_Store : Tc_Store K C_Store := ⟨⟨pg_Store, hdi_Store, po_Store, sa_Store⟩, na_journal_Store, na__texts_Store, na__rows_Store⟩
  have TC_Record : Tc_Record K C_Record := ⟨⟨pg_Record, hdi_Record, po_Record, sa_Record⟩, na_outputs_Record, na_rule_key_Record, na_needs_Record, na_results_Record⟩
  have x_InvalidRecord : Kn.Xc K X_InvalidRecord XB := ⟨⟨⟨nm_InvalidRecord, q_InvalidRecord, N_InvalidRecord_, bs_InvalidRecord, _, sn_InvalidRecord, sub_InvalidRecord, ab_InvalidRecord, col_InvalidRecord, dd_InvalidRecord, m0_InvalidRecord, m1_InvalidRecord, m2_InvalidRecord, m3_InvalidRecord, m5_InvalidRecord, xL_InvalidRecord, rfl⟩, xsa_InvalidRecord, xex_InvalidRecord, xty_InvalidRecord, xkc_InvalidRecord⟩, ⟨xga_InvalidRecord, xgg_InvalidRecord, xex_InvalidRecord, xhd_InvalidRecord, xcl_InvalidRecord, xgs, xtk, xmr_InvalidRecord⟩, ⟨xga_InvalidRecord, xgg_InvalidRecord, xex_InvalidRecord, xhd_InvalidRecord⟩, PySem.W.exm_ref xex_InvalidRecord xhd_InvalidRecord xty_InvalidRecord xcc_InvalidRecord, Kn.kit_ref bhd bty xkB_InvalidRecord xcc_InvalidRecord⟩
  have x_NoSuchRecord : Kn.Xc K X_NoSuchRecord XB := ⟨⟨⟨nm_NoSuchRecord, q_NoSuchRecord, N_NoSuchRecord_, bs_NoSuchRecord, _, sn_NoSuchRecord, sub_NoSuchRecord, ab_NoSuchRecord, col_NoSuchRecord, dd_NoSuchRecord, m0_NoSuchRecord, m1_NoSuchRecord, m2_NoSuchRecord, m3_NoSuchRecord, m5_NoSuchRecord, xL_NoSuchRecord, rfl⟩, xsa_NoSuchRecord, xex_NoSuchRecord, xty_NoSuchRecord, xkc_NoSuchRecord⟩, ⟨xga_NoSuchRecord, xgg_NoSuchRecord, xex_NoSuchRecord, xhd_NoSuchRecord, xcl_NoSuchRecord, xgs, xtk, xmr_NoSuchRecord⟩, ⟨xga_NoSuchRecord, xgg_NoSuchRecord, xex_NoSuchRecord, xhd_NoSuchRecord⟩, PySem.W.exm_ref xex_NoSuchRecord xhd_NoSuchRecord xty_NoSuchRecord xcc_NoSuchRecord, Kn.kit_ref bhd bty xkB_NoSuchRecord xcc_NoSuchRecord⟩
  have x_DamagedRecord : Kn.Xc K X_DamagedRecord XB := ⟨⟨⟨nm_DamagedRecord, q_DamagedRecord, N_DamagedRecord_, bs_DamagedRecord, _, sn_DamagedRecord, sub_DamagedRecord, ab_DamagedRecord, col_DamagedRecord, dd_DamagedRecord, m0_DamagedRecord, m1_DamagedRecord, m2_DamagedRecord, m3_DamagedRecord, m5_DamagedRecord, xL_DamagedRecord, rfl⟩, xsa_DamagedRecord, xex_DamagedRecord, xty_DamagedRecord, xkc_DamagedRecord⟩, ⟨xga_DamagedRecord, xgg_DamagedRecord, xex_DamagedRecord, xhd_DamagedRecord, xcl_DamagedRecord, xgs, xtk, xmr_DamagedRecord⟩, ⟨xga_DamagedRecord, xgg_DamagedRecord, xex_DamagedRecord, xhd_DamagedRecord⟩, PySem.W.exm_ref xex_DamagedRecord xhd_DamagedRecord xty_DamagedRecord xcc_DamagedRecord, Kn.kit_ref bhd bty xkB_DamagedRecord xcc_DamagedRecord⟩
  let GX : Gx K mg := { c_BuildError := XB, g_BuildError := PySem.W.mg_of X G aB, b_BuildError := ⟨bsp, brd, bfi⟩, c_InvalidRecord := X_InvalidRecord, g_InvalidRecord := PySem.W.mg_of X G xa_InvalidRecord, x_InvalidRecord := x_InvalidRecord, n_InvalidRecord_line := xnline_InvalidRecord, c_NoSuchRecord := X_NoSuchRecord, g_NoSuchRecord := PySem.W.mg_of X G xa_NoSuchRecord, x_NoSuchRecord := x_NoSuchRecord, n_NoSuchRecord_index := xnindex_NoSuchRecord, c_DamagedRecord := X_DamagedRecord, g_DamagedRecord := PySem.W.mg_of X G xa_DamagedRecord, x_DamagedRecord := x_DamagedRecord, n_DamagedRecord_index := xnindex_DamagedRecord, m_DamagedRecord_NoSuchRecord := PySem.W.exm_ref xex_NoSuchRecord xhd_NoSuchRecord xty_NoSuchRecord xp_DamagedRecord_NoSuchRecord }
  have F0 := fun_mk (st := s_InvalidRecord___init__) l0 c0 k0
  have b0 := F0.binds (ps := ["self", "line"]) fun _ _ _ _ _ _ us hl => match us, hl with | [_, _], _ => rfl
  have F1 := fun_mk (st := s_NoSuchRecord___init__) l1 c1 k1
  have b1 := F1.binds (ps := ["self", "index"]) fun _ _ _ _ _ _ us hl => match us, hl with | [_, _], _ => rfl
  have F2 := fun_mk (st := s_DamagedRecord___init__) l2 c2 k2
  have b2 := F2.binds (ps := ["self", "index"]) fun _ _ _ _ _ _ us hl => match us, hl with | [_, _], _ => rfl
  have F3 := fun_mk (st := s_content_key) l3 c3 k3
  have b3 := F3.binds (ps := ["text"]) fun _ _ _ _ _ _ us hl => match us, hl with | [_], _ => rfl
  have F4 := fun_mk (st := s__is_name) l4 c4 k4
  have b4 := F4.binds (ps := ["name"]) fun _ _ _ _ _ _ us hl => match us, hl with | [_], _ => rfl
  have F5 := fun_mk (st := s_is_path) l5 c5 k5
  have b5 := F5.binds (ps := ["value"]) fun _ _ _ _ _ _ us hl => match us, hl with | [_], _ => rfl
  have F6 := fun_mk (st := s_is_pattern) l6 c6 k6
  have b6 := F6.binds (ps := ["value"]) fun _ _ _ _ _ _ us hl => match us, hl with | [_], _ => rfl
  have F7 := fun_mk (st := s_is_name_pattern) l7 c7 k7
  have b7 := F7.binds (ps := ["value"]) fun _ _ _ _ _ _ us hl => match us, hl with | [_], _ => rfl
  have F8 := fun_mk (st := s_is_identifier) l8 c8 k8
  have b8 := F8.binds (ps := ["value"]) fun _ _ _ _ _ _ us hl => match us, hl with | [_], _ => rfl
  have F9 := fun_mk (st := s_Record___init__) l9 c9 k9
  have b9 := F9.binds (ps := ["self", "outputs", "rule_key", "needs", "results"]) fun _ _ _ _ _ _ us hl => match us, hl with | [_, _, _, _, _], _ => rfl
  have F10 := fun_mk (st := s_question) l10 c10 k10
  have b10 := F10.binds (ps := ["need"]) fun _ _ _ _ _ _ us hl => match us, hl with | [_], _ => rfl
  have F11 := fun_mk (st := s__format_seen) l11 c11 k11
  have b11 := F11.binds (ps := ["seen"]) fun _ _ _ _ _ _ us hl => match us, hl with | [_], _ => rfl
  have F12 := fun_mk (st := s__format_need) l12 c12 k12
  have b12 := F12.binds (ps := ["need"]) fun _ _ _ _ _ _ us hl => match us, hl with | [_], _ => rfl
  have F13 := fun_mk (st := s_format_record) l13 c13 k13
  have b13 := F13.binds (ps := ["record"]) fun _ _ _ _ _ _ us hl => match us, hl with | [_], _ => rfl
  have F14 := fun_mk (st := s__is_number) l14 c14 k14
  have b14 := F14.binds (ps := ["word"]) fun _ _ _ _ _ _ us hl => match us, hl with | [_], _ => rfl
  have F15 := fun_mk (st := s__is_number_or_nothing) l15 c15 k15
  have b15 := F15.binds (ps := ["word"]) fun _ _ _ _ _ _ us hl => match us, hl with | [_], _ => rfl
  have F16 := fun_mk (st := s__is_folder) l16 c16 k16
  have b16 := F16.binds (ps := ["word"]) fun _ _ _ _ _ _ us hl => match us, hl with | [_], _ => rfl
  have F17 := fun_mk (st := s__is_need) l17 c17 k17
  have b17 := F17.binds (ps := ["word"]) fun _ _ _ _ _ _ us hl => match us, hl with | [_], _ => rfl
  have F18 := fun_mk (st := s__are_outputs) l18 c18 k18
  have b18 := F18.binds (ps := ["words"]) fun _ _ _ _ _ _ us hl => match us, hl with | [_], _ => rfl
  have F19 := fun_mk (st := s__are_needs) l19 c19 k19
  have b19 := F19.binds (ps := ["words"]) fun _ _ _ _ _ _ us hl => match us, hl with | [_], _ => rfl
  have F20 := fun_mk (st := s__parse_seen) l20 c20 k20
  have b20 := F20.binds (ps := ["word"]) fun _ _ _ _ _ _ us hl => match us, hl with | [_], _ => rfl
  have F21 := fun_mk (st := s__parse_need) l21 c21 k21
  have b21 := F21.binds (ps := ["word"]) fun _ _ _ _ _ _ us hl => match us, hl with | [_], _ => rfl
  have F22 := fun_mk (st := s_parse_record) l22 c22 k22
  have b22 := F22.binds (ps := ["line"]) fun _ _ _ _ _ _ us hl => match us, hl with | [_], _ => rfl
  have F23 := fun_mk (st := s__law_cell) l23 c23 k23
  have b23 := F23.binds (ps := ["script", "k"]) fun _ _ _ _ _ _ us hl => match us, hl with | [_, _], _ => rfl
  have F24 := fun_mk (st := s__law_numbers) l24 c24 k24
  have b24 := F24.binds (ps := ["cell", "count"]) fun _ _ _ _ _ _ us hl => match us, hl with | [_, _], _ => rfl
  have F25 := fun_mk (st := s__law_path) l25 c25 k25
  have b25 := F25.binds (ps := ["n"]) fun _ _ _ _ _ _ us hl => match us, hl with | [_], _ => rfl
  have F26 := fun_mk (st := s__law_text) l26 c26 k26
  have b26 := F26.binds (ps := ["n"]) fun _ _ _ _ _ _ us hl => match us, hl with | [_], _ => rfl
  have F27 := fun_mk (st := s__law_need) l27 c27 k27
  have b27 := F27.binds (ps := ["n", "k"]) fun _ _ _ _ _ _ us hl => match us, hl with | [_, _], _ => rfl
  have F28 := fun_mk (st := s__law_record) l28 c28 k28
  have b28 := F28.binds (ps := ["cell", "job"]) fun _ _ _ _ _ _ us hl => match us, hl with | [_, _], _ => rfl
  have F29 := fun_mk (st := s_Record___eq__) l29 c29 k29
  have b29 := F29.binds (ps := ["self", "other"]) fun _ _ _ _ _ _ us hl => match us, hl with | [_, _], _ => rfl
  have F30 : FunD K "__init__" "Store.__init__" (defArgs s_Store___init__) (defBody s_Store___init__) (defScope s_Store___init__) [.non] [] f30 _ := ⟨⟨_, _, _, _, _, _, _, _, _, _, rfl, l30, c30, Kn.dfl_one dl30 rfl, .inl rfl⟩, k30⟩
  obtain ⟨ds30, rd30, b30⟩ := F30.binds1 (ps := ["self", "journal"]) 1 0 (by simp) rfl (fun _ _ _ _ _ _ _ us its hl hi => match us, hl, its, hi with | [_], _, [_], _ => ⟨_, rfl, rfl⟩)
  have F31 := fun_mk (st := s__read_row) l31 c31 k31
  have b31 := F31.binds (ps := ["row"]) fun _ _ _ _ _ _ us hl => match us, hl with | [_], _ => rfl
  have F32 := fun_mk (st := s_Store_add_record) l32 c32 k32
  have b32 := F32.binds (ps := ["self", "record"]) fun _ _ _ _ _ _ us hl => match us, hl with | [_, _], _ => rfl
  have F33 := fun_mk (st := s_Store__check_kept) l33 c33 k33
  have b33 := F33.binds (ps := ["self", "index"]) fun _ _ _ _ _ _ us hl => match us, hl with | [_, _], _ => rfl
  have F34 := fun_mk (st := s_Store_record) l34 c34 k34
  have b34 := F34.binds (ps := ["self", "index"]) fun _ _ _ _ _ _ us hl => match us, hl with | [_, _], _ => rfl
  have F35 := fun_mk (st := s_Store_find_records) l35 c35 k35
  have b35 := F35.binds (ps := ["self", "outputs", "rule_key"]) fun _ _ _ _ _ _ us hl => match us, hl with | [_, _, _], _ => rfl
  have F36 := fun_mk (st := s_Store_lose_record) l36 c36 k36
  have b36 := F36.binds (ps := ["self", "index"]) fun _ _ _ _ _ _ us hl => match us, hl with | [_, _], _ => rfl
  have F37 := fun_mk (st := s_Store_damage_record) l37 c37 k37
  have b37 := F37.binds (ps := ["self", "index", "line"]) fun _ _ _ _ _ _ us hl => match us, hl with | [_, _, _], _ => rfl
  have F38 := fun_mk (st := s_Store_record_count) l38 c38 k38
  have b38 := F38.binds (ps := ["self"]) fun _ _ _ _ _ _ us hl => match us, hl with | [_], _ => rfl
  have F39 := fun_mk (st := s_Store_kept_records) l39 c39 k39
  have b39 := F39.binds (ps := ["self"]) fun _ _ _ _ _ _ us hl => match us, hl with | [_], _ => rfl
  have F40 := fun_mk (st := s__law_one) l40 c40 k40
  have b40 := F40.binds (ps := ["store", "kept", "index"]) fun _ _ _ _ _ _ us hl => match us, hl with | [_, _, _], _ => rfl
  have F41 := fun_mk (st := s__law_found) l41 c41 k41
  have b41 := F41.binds (ps := ["store", "kept", "probe"]) fun _ _ _ _ _ _ us hl => match us, hl with | [_, _, _], _ => rfl
  have F42 := fun_mk (st := s__law_harm) l42 c42 k42
  have b42 := F42.binds (ps := ["store", "kept", "n", "index"]) fun _ _ _ _ _ _ us hl => match us, hl with | [_, _, _, _], _ => rfl
  have F43 := fun_mk (st := s_law) l43 c43 k43
  have b43 := F43.binds (ps := ["script"]) fun _ _ _ _ _ _ us hl => match us, hl with | [_], _ => rfl
  refine ⟨PySem.W.fnOf "law" "law" (defArgs s_law) (defBody s_law) (defScope s_law) .none kV43 dc43 pm43 an43 cd43 ct43, fun s v => .of_eq rfl, fun base _ _ => ?_⟩
  have Z_InvalidRecord : Kn.Xk l.prog w K mg base 1 "InvalidRecord" GX.c_InvalidRecord (sp_I1 "line" K) := ⟨x_InvalidRecord.oe, _, _, _, a0, i0, ok_InvalidRecord___init__ F0 T GX TC_Store TC_Record, b0, PySem.W.mg_of X G xa_InvalidRecord⟩
  have Z_NoSuchRecord : Kn.Xk l.prog w K mg base 1 "NoSuchRecord" GX.c_NoSuchRecord (sp_I1z "index" K) := ⟨x_NoSuchRecord.oe, _, _, _, a1, i1, ok_NoSuchRecord___init__ F1 T GX TC_Store TC_Record, b1, PySem.W.mg_of X G xa_NoSuchRecord⟩
  have Z_DamagedRecord : Kn.Xk l.prog w K mg base 1 "DamagedRecord" GX.c_DamagedRecord (sp_I1z "index" K) := ⟨x_DamagedRecord.oe, _, _, _, a2, i2, ok_DamagedRecord___init__ F2 T GX TC_Store TC_Record, b2, PySem.W.mg_of X G xa_DamagedRecord⟩
  have C_content_key : Kn.Cl l.prog w K mg base 1 "content_key" (sp_content_key K) := Kn.cl_of (ok_content_key F3 T GX TC_Store TC_Record hdig) F3 (PySem.W.mg_of X G a3) b3
  have C__is_name : Kn.Cl l.prog w K mg base 1 "_is_name" (sp__is_name K) := Kn.cl_of (ok__is_name F4 T GX TC_Store TC_Record) F4 (PySem.W.mg_of X G a4) b4
  have C_is_path : Kn.Cl l.prog w K mg base 2 "is_path" (sp_is_path K) := Kn.cl_of (ok_is_path F5 T GX TC_Store TC_Record C__is_name) F5 (PySem.W.mg_of X G a5) b5
  have C_is_pattern : Kn.Cl l.prog w K mg base 3 "is_pattern" (sp_is_pattern K) := Kn.cl_of (ok_is_pattern F6 T GX TC_Store TC_Record C_is_path) F6 (PySem.W.mg_of X G a6) b6
  have C_is_name_pattern : Kn.Cl l.prog w K mg base 4 "is_name_pattern" (sp_is_name_pattern K) := Kn.cl_of (ok_is_name_pattern F7 T GX TC_Store TC_Record C_is_pattern) F7 (PySem.W.mg_of X G a7) b7
  have C_is_identifier : Kn.Cl l.prog w K mg base 1 "is_identifier" (sp_is_identifier K) := Kn.cl_of (ok_is_identifier F8 T GX TC_Store TC_Record) F8 (PySem.W.mg_of X G a8) b8
  have M_Record : Kn.Mkr l.prog w K mg base 1 "Record" C_Record (sp_Record___init__ C_Record K) := ⟨_, _, _, ⟨mk_Record, a9, i9, kc_Record⟩, ok_Record___init__ F9 T GX TC_Store TC_Record, PySem.W.mg_of X G aC_Record, b9⟩
  have C_question : Kn.Cl l.prog w K mg base 1 "question" (sp_question K) := Kn.cl_of (ok_question F10 T GX TC_Store TC_Record) F10 (PySem.W.mg_of X G a10) b10
  have H_question : Kn.ClH l.prog w K mg base 1 "question" (sp_question K) := ⟨_, _, _, okH_question F10 T GX TC_Store TC_Record, (PySem.W.mg_of X G a10), F10.kp, b10⟩
  have C__format_seen : Kn.Cl l.prog w K mg base 1 "_format_seen" (sp__format_seen K) := Kn.cl_of (ok__format_seen F11 T GX TC_Store TC_Record) F11 (PySem.W.mg_of X G a11) b11
  have H__format_seen : Kn.ClH l.prog w K mg base 1 "_format_seen" (sp__format_seen K) := ⟨_, _, _, okH__format_seen F11 T GX TC_Store TC_Record, (PySem.W.mg_of X G a11), F11.kp, b11⟩
  have C__format_need : Kn.Cl l.prog w K mg base 2 "_format_need" (sp__format_need K) := Kn.cl_of (ok__format_need F12 T GX TC_Store TC_Record C_question C__format_seen) F12 (PySem.W.mg_of X G a12) b12
  have H__format_need : Kn.ClH l.prog w K mg base 2 "_format_need" (sp__format_need K) := ⟨_, _, _, okH__format_need F12 T GX TC_Store TC_Record H_question H__format_seen, (PySem.W.mg_of X G a12), F12.kp, b12⟩
  have C_format_record : Kn.Cl l.prog w K mg base 3 "format_record" (sp_format_record C_Record K) := Kn.cl_of (ok_format_record F13 T GX TC_Store TC_Record C__format_need) F13 (PySem.W.mg_of X G a13) b13
  have H_format_record : Kn.ClH l.prog w K mg base 3 "format_record" (sp_format_record C_Record K) := ⟨_, _, _, okH_format_record F13 T GX TC_Store TC_Record H__format_need, (PySem.W.mg_of X G a13), F13.kp, b13⟩
  have C__is_number : Kn.Cl l.prog w K mg base 1 "_is_number" (sp__is_number K) := Kn.cl_of (ok__is_number F14 T GX TC_Store TC_Record) F14 (PySem.W.mg_of X G a14) b14
  have C__is_number_or_nothing : Kn.Cl l.prog w K mg base 2 "_is_number_or_nothing" (sp__is_number_or_nothing K) := Kn.cl_of (ok__is_number_or_nothing F15 T GX TC_Store TC_Record C__is_number) F15 (PySem.W.mg_of X G a15) b15
  have C__is_folder : Kn.Cl l.prog w K mg base 3 "_is_folder" (sp__is_folder K) := Kn.cl_of (ok__is_folder F16 T GX TC_Store TC_Record C_is_path) F16 (PySem.W.mg_of X G a16) b16
  have C__is_need : Kn.Cl l.prog w K mg base 5 "_is_need" (sp__is_need K) := Kn.cl_of (ok__is_need F17 T GX TC_Store TC_Record C__is_folder C_is_name_pattern C__is_number C_is_identifier C__is_number_or_nothing C_is_path) F17 (PySem.W.mg_of X G a17) b17
  have C__are_outputs : Kn.Cl l.prog w K mg base 3 "_are_outputs" (sp__are_outputs K) := Kn.cl_of (ok__are_outputs F18 T GX TC_Store TC_Record C_is_path) F18 (PySem.W.mg_of X G a18) b18
  have C__are_needs : Kn.Cl l.prog w K mg base 6 "_are_needs" (sp__are_needs K) := Kn.cl_of (ok__are_needs F19 T GX TC_Store TC_Record C__is_need) F19 (PySem.W.mg_of X G a19) b19
  have C__parse_seen : Kn.Cl l.prog w K mg base 1 "_parse_seen" (sp__parse_seen K) := Kn.cl_of (ok__parse_seen F20 T GX TC_Store TC_Record) F20 (PySem.W.mg_of X G a20) b20
  have C__parse_need : Kn.Cl l.prog w K mg base 2 "_parse_need" (sp__parse_need K) := Kn.cl_of (ok__parse_need F21 T GX TC_Store TC_Record C__parse_seen) F21 (PySem.W.mg_of X G a21) b21
  have C_parse_record : Kn.ClX l.prog w K mg base 7 "parse_record" (sp_parse_record C_Record GX) := Kn.clX_of (ok_parse_record F22 T GX TC_Store TC_Record Z_InvalidRecord C__are_outputs C__is_number C__are_needs M_Record C__parse_need) F22 (PySem.W.mg_of X G a22) b22
  have C__law_cell : Kn.Cl l.prog w K mg base 1 "_law_cell" (sp__law_cell K) := Kn.cl_of (ok__law_cell F23 T GX TC_Store TC_Record) F23 (PySem.W.mg_of X G a23) b23
  have C__law_numbers : Kn.Cl l.prog w K mg base 1 "_law_numbers" (sp__law_numbers K) := Kn.cl_of (ok__law_numbers F24 T GX TC_Store TC_Record) F24 (PySem.W.mg_of X G a24) b24
  have C__law_path : Kn.Cl l.prog w K mg base 1 "_law_path" (sp__law_path K) := Kn.cl_of (ok__law_path F25 T GX TC_Store TC_Record) F25 (PySem.W.mg_of X G a25) b25
  have C__law_text : Kn.Cl l.prog w K mg base 1 "_law_text" (sp__law_text K) := Kn.cl_of (ok__law_text F26 T GX TC_Store TC_Record) F26 (PySem.W.mg_of X G a26) b26
  have C__law_need : Kn.Cl l.prog w K mg base 2 "_law_need" (sp__law_need K) := Kn.cl_of (ok__law_need F27 T GX TC_Store TC_Record C_content_key C__law_text C__law_path) F27 (PySem.W.mg_of X G a27) b27
  have C__law_record : Kn.Cl l.prog w K mg base 3 "_law_record" (sp__law_record C_Record K) := Kn.cl_of (ok__law_record F28 T GX TC_Store TC_Record C__law_numbers C__law_need C__law_text C_content_key M_Record) F28 (PySem.W.mg_of X G a28) b28
  have M_Record___eq__ : Kn.Mt l.prog w K mg base 1 C_Record "__eq__" (sp_Record___eq__ C_Record K) := ⟨_, _, _, TC_Record.cl, ⟨a29, i29, k29⟩, ok_Record___eq__ F29 T GX TC_Store TC_Record (PySem.W.mg_of X G aC_Record) (fun e => TyOf.ins e TC_Record.cl clR xgs xtk mrR) (Kn.kit_ref hdi_Record tyR ccR ccR), b29⟩
  have M_Store : Kn.MkrD l.prog w K mg base 1 "Store" C_Store (sp_Store___init__ C_Store K) [.non] := ⟨_, _, _, _, ⟨mk_Store, a30, i30, kc_Store⟩, ok_Store___init__ F30 T GX TC_Store TC_Record, PySem.W.mg_of X G aC_Store, b30, rd30⟩
  have C__read_row : Kn.Cl l.prog w K mg base 8 "_read_row" (sp__read_row C_Record GX) := Kn.cl_of (ok__read_row F31 T GX TC_Store TC_Record C_content_key C_parse_record) F31 (PySem.W.mg_of X G a31) b31
  have M_Store_add_record : Kn.Mt l.prog w K mg base 4 C_Store "add_record" (sp_Store_add_record C_Store C_Record K) := ⟨_, _, _, TC_Store.cl, ⟨a32, i32, k32⟩, ok_Store_add_record F32 T GX TC_Store TC_Record C_format_record C_content_key, b32⟩
  have M_Store__check_kept : Kn.MtXN l.prog w K mg base 3 C_Store "_check_kept" (sp_Store__check_kept C_Store C_Record GX) := ⟨_, _, _, TC_Store.cl, ⟨a33, i33, k33⟩, ok_Store__check_kept F33 T GX TC_Store TC_Record Z_NoSuchRecord, b33⟩
  have M_Store_record : Kn.MtXN l.prog w K mg base 9 C_Store "record" (sp_Store_record C_Store C_Record GX) := ⟨_, _, _, TC_Store.cl, ⟨a34, i34, k34⟩, ok_Store_record F34 T GX TC_Store TC_Record M_Store__check_kept C__read_row Z_DamagedRecord, b34⟩
  have M_Store_find_records : Kn.Mt l.prog w K mg base 9 C_Store "find_records" (sp_Store_find_records C_Store C_Record K) := ⟨_, _, _, TC_Store.cl, ⟨a35, i35, k35⟩, ok_Store_find_records F35 T GX TC_Store TC_Record C__read_row, b35⟩
  have M_Store_lose_record : Kn.MtXN l.prog w K mg base 4 C_Store "lose_record" (sp_Store_lose_record C_Store C_Record GX) := ⟨_, _, _, TC_Store.cl, ⟨a36, i36, k36⟩, ok_Store_lose_record F36 T GX TC_Store TC_Record M_Store__check_kept, b36⟩
  have M_Store_damage_record : Kn.MtXN l.prog w K mg base 4 C_Store "damage_record" (sp_Store_damage_record C_Store C_Record GX) := ⟨_, _, _, TC_Store.cl, ⟨a37, i37, k37⟩, ok_Store_damage_record F37 T GX TC_Store TC_Record M_Store__check_kept, b37⟩
  have M_Store_record_count : Kn.Mt l.prog w K mg base 1 C_Store "record_count" (sp_Store_record_count C_Store C_Record K) := ⟨_, _, _, TC_Store.cl, ⟨a38, i38, k38⟩, ok_Store_record_count F38 T GX TC_Store TC_Record, b38⟩
  have M_Store_kept_records : Kn.Mt l.prog w K mg base 1 C_Store "kept_records" (sp_Store_kept_records C_Store C_Record K) := ⟨_, _, _, TC_Store.cl, ⟨a39, i39, k39⟩, ok_Store_kept_records F39 T GX TC_Store TC_Record, b39⟩
  have C__law_one : Kn.Cl l.prog w K mg base 10 "_law_one" (sp__law_one C_Store C_Record GX) := Kn.cl_of (ok__law_one F40 T GX TC_Store TC_Record M_Store_record C_format_record M_Record___eq__ H_format_record) F40 (PySem.W.mg_of X G a40) b40
  have C__law_found : Kn.Cl l.prog w K mg base 10 "_law_found" (sp__law_found C_Store C_Record GX) := Kn.cl_of (ok__law_found F41 T GX TC_Store TC_Record C_format_record M_Store_find_records) F41 (PySem.W.mg_of X G a41) b41
  have C__law_harm : Kn.Cl l.prog w K mg base 5 "_law_harm" (sp__law_harm C_Store C_Record GX) := Kn.cl_of (ok__law_harm F42 T GX TC_Store TC_Record C_format_record M_Store_lose_record M_Store_damage_record) F42 (PySem.W.mg_of X G a42) b42
  exact ok_law F43 T GX TC_Store TC_Record M_Store C__law_cell C__law_numbers C__law_record M_Store_add_record C_format_record C__law_harm M_Store_record_count C__law_found C__law_one M_Store_kept_records C_content_key
end My
open PySem PySem.W PyProof.Rows
set_option maxHeartbeats 0 in
theorem PySem.Challenge.cw_kilnyard_k44_records_of_a_store_holds : PySem.Challenge.rw_kilnyard_k44_records_of_a_store.Holds := by
  w_on; o_law; k_head; (case hw => w_witness2)
  k_fill
  refine L2.walk_of (l := PySem.Challenge.rw_kilnyard_k44_records_of_a_store) (n := 63) (k := 11) (x := "script") (CX := fun _ => L2.CX0) (sp := fun w => My.sp_law _) rfl (by decide) rfl ⟨rfl, by decide, by decide⟩ (fun w h Y => PySem.W.kIn_of Y) ?F (fun _ _ a ns hl _ hS => ⟨a, ns, rfl, ⟨hS, hl⟩, fun _ _ => rfl⟩) (fun _ _ _ _ _ h => h)
  case F =>
    intro w mg fa h KX G hmg
    refine' My.all_mk KX G hmg ?aC_Store ?pg_Store ?hdi_Store ?po_Store ?sa_Store ?mk_Store ?kc_Store ?na_journal_Store ?na__texts_Store ?na__rows_Store ?aC_Record ?pg_Record ?hdi_Record ?po_Record ?sa_Record ?mk_Record ?kc_Record ?na_outputs_Record ?na_rule_key_Record ?na_needs_Record ?na_results_Record ?aB ?bsp ?brd ?bfi ?bhd ?bty ?xgs ?xtk ?xa_InvalidRecord ?xL_InvalidRecord ?xsa_InvalidRecord ?xex_InvalidRecord ?xty_InvalidRecord ?xkc_InvalidRecord ?xnline_InvalidRecord ?xga_InvalidRecord ?xgg_InvalidRecord ?xhd_InvalidRecord ?xcl_InvalidRecord ?xmr_InvalidRecord ?xcc_InvalidRecord ?xkB_InvalidRecord ?xa_NoSuchRecord ?xL_NoSuchRecord ?xsa_NoSuchRecord ?xex_NoSuchRecord ?xty_NoSuchRecord ?xkc_NoSuchRecord ?xnindex_NoSuchRecord ?xga_NoSuchRecord ?xgg_NoSuchRecord ?xhd_NoSuchRecord ?xcl_NoSuchRecord ?xmr_NoSuchRecord ?xcc_NoSuchRecord ?xkB_NoSuchRecord ?xa_DamagedRecord ?xL_DamagedRecord ?xsa_DamagedRecord ?xex_DamagedRecord ?xty_DamagedRecord ?xkc_DamagedRecord ?xnindex_DamagedRecord ?xga_DamagedRecord ?xgg_DamagedRecord ?xhd_DamagedRecord ?xcl_DamagedRecord ?xmr_DamagedRecord ?xcc_DamagedRecord ?xkB_DamagedRecord ?xp_DamagedRecord_NoSuchRecord ?a0 ?i0 ?l0 ?c0 ?k0 ?a1 ?i1 ?l1 ?c1 ?k1 ?a2 ?i2 ?l2 ?c2 ?k2 ?a3 ?l3 ?c3 ?k3 ?a4 ?l4 ?c4 ?k4 ?a5 ?l5 ?c5 ?k5 ?a6 ?l6 ?c6 ?k6 ?a7 ?l7 ?c7 ?k7 ?a8 ?l8 ?c8 ?k8 ?a9 ?i9 ?l9 ?c9 ?k9 ?a10 ?l10 ?c10 ?k10 ?a11 ?l11 ?c11 ?k11 ?a12 ?l12 ?c12 ?k12 ?a13 ?l13 ?c13 ?k13 ?a14 ?l14 ?c14 ?k14 ?a15 ?l15 ?c15 ?k15 ?a16 ?l16 ?c16 ?k16 ?a17 ?l17 ?c17 ?k17 ?a18 ?l18 ?c18 ?k18 ?a19 ?l19 ?c19 ?k19 ?a20 ?l20 ?c20 ?k20 ?a21 ?l21 ?c21 ?k21 ?a22 ?l22 ?c22 ?k22 ?a23 ?l23 ?c23 ?k23 ?a24 ?l24 ?c24 ?k24 ?a25 ?l25 ?c25 ?k25 ?a26 ?l26 ?c26 ?k26 ?a27 ?l27 ?c27 ?k27 ?a28 ?l28 ?c28 ?k28 ?a29 ?i29 ?l29 ?c29 ?k29 ?a30 ?i30 ?l30 ?dl30 ?c30 ?k30 ?a31 ?l31 ?c31 ?k31 ?a32 ?i32 ?l32 ?c32 ?k32 ?a33 ?i33 ?l33 ?c33 ?k33 ?a34 ?i34 ?l34 ?c34 ?k34 ?a35 ?i35 ?l35 ?c35 ?k35 ?a36 ?i36 ?l36 ?c36 ?k36 ?a37 ?i37 ?l37 ?c37 ?k37 ?a38 ?i38 ?l38 ?c38 ?k38 ?a39 ?i39 ?l39 ?c39 ?k39 ?a40 ?l40 ?c40 ?k40 ?a41 ?l41 ?c41 ?k41 ?a42 ?l42 ?c42 ?k42 ?a43 ?l43 ?c43 ?k43 ?zb_abs ?zb_all ?zb_enumerate ?zb_int ?zb_isinstance ?zb_len ?zb_list ?zb_max ?zb_min ?zb_ord ?zb_range ?zb_set ?zb_str ?zb_tuple ?zc_MOST_NAMES ?zc_NAME_LENGTH ?zc_NAME_SIGNS ?zc_IDENTIFIER_LENGTH ?zc_LETTERS ?zc_IDENTIFIER_SIGNS ?zc_MOST_OUTPUTS ?zc_MOST_NEEDS ?zc_MOST_DIGITS ?zc_NOTHING ?zc_YES ?zc_NO ?hdig ?tyR ?ccR ?clR ?mrR
    (case aC_Store => k_is)
    (case pg_Store => k_is)
    (case hdi_Store => k_is)
    (case po_Store => k_is)
    (case sa_Store => k_is)
    (case mk_Store => k_is)
    (case kc_Store => k_is)
    (case na_journal_Store => k_is)
    (case na__texts_Store => k_is)
    (case na__rows_Store => k_is)
    (case aC_Record => k_is)
    (case pg_Record => k_is)
    (case hdi_Record => k_is)
    (case po_Record => k_is)
    (case sa_Record => k_is)
    (case mk_Record => k_is)
    (case kc_Record => k_is)
    (case na_outputs_Record => k_is)
    (case na_rule_key_Record => k_is)
    (case na_needs_Record => k_is)
    (case na_results_Record => k_is)
    (case aB => k_is)
    (case bsp => k_is)
    (case brd => k_is)
    (case bfi => k_is)
    (case bhd => k_is)
    (case bty => k_is)
    (case xgs => k_is)
    (case xtk => k_is)
    (case xa_InvalidRecord => k_is)
    (case xL_InvalidRecord => k_is)
    (case xsa_InvalidRecord => k_is)
    (case xex_InvalidRecord => k_is)
    (case xty_InvalidRecord => k_is)
    (case xkc_InvalidRecord => k_is)
    (case xnline_InvalidRecord => k_is)
    (case xga_InvalidRecord => k_is)
    (case xgg_InvalidRecord => k_is)
    (case xhd_InvalidRecord => k_is)
    (case xcl_InvalidRecord => k_is)
    (case xmr_InvalidRecord => k_is)
    (case xcc_InvalidRecord => first | rfl | k_is)
    (case xkB_InvalidRecord => k_is)
    (case xa_NoSuchRecord => k_is)
    (case xL_NoSuchRecord => k_is)
    (case xsa_NoSuchRecord => k_is)
    (case xex_NoSuchRecord => k_is)
    (case xty_NoSuchRecord => k_is)
    (case xkc_NoSuchRecord => k_is)
    (case xnindex_NoSuchRecord => k_is)
    (case xga_NoSuchRecord => k_is)
    (case xgg_NoSuchRecord => k_is)
    (case xhd_NoSuchRecord => k_is)
    (case xcl_NoSuchRecord => k_is)
    (case xmr_NoSuchRecord => k_is)
    (case xcc_NoSuchRecord => first | rfl | k_is)
    (case xkB_NoSuchRecord => k_is)
    (case xa_DamagedRecord => k_is)
    (case xL_DamagedRecord => k_is)
    (case xsa_DamagedRecord => k_is)
    (case xex_DamagedRecord => k_is)
    (case xty_DamagedRecord => k_is)
    (case xkc_DamagedRecord => k_is)
    (case xnindex_DamagedRecord => k_is)
    (case xga_DamagedRecord => k_is)
    (case xgg_DamagedRecord => k_is)
    (case xhd_DamagedRecord => k_is)
    (case xcl_DamagedRecord => k_is)
    (case xmr_DamagedRecord => k_is)
    (case xcc_DamagedRecord => first | rfl | k_is)
    (case xkB_DamagedRecord => k_is)
    (case xp_DamagedRecord_NoSuchRecord => k_is)
    (case a0 => k_is)
    (case i0 => k_is)
    (case l0 => k_is)
    (case c0 => k_is)
    (case k0 => k_is)
    (case a1 => k_is)
    (case i1 => k_is)
    (case l1 => k_is)
    (case c1 => k_is)
    (case k1 => k_is)
    (case a2 => k_is)
    (case i2 => k_is)
    (case l2 => k_is)
    (case c2 => k_is)
    (case k2 => k_is)
    (case a3 => k_is)
    (case l3 => k_is)
    (case c3 => k_is)
    (case k3 => k_is)
    (case a4 => k_is)
    (case l4 => k_is)
    (case c4 => k_is)
    (case k4 => k_is)
    (case a5 => k_is)
    (case l5 => k_is)
    (case c5 => k_is)
    (case k5 => k_is)
    (case a6 => k_is)
    (case l6 => k_is)
    (case c6 => k_is)
    (case k6 => k_is)
    (case a7 => k_is)
    (case l7 => k_is)
    (case c7 => k_is)
    (case k7 => k_is)
    (case a8 => k_is)
    (case l8 => k_is)
    (case c8 => k_is)
    (case k8 => k_is)
    (case a9 => k_is)
    (case i9 => k_is)
    (case l9 => k_is)
    (case c9 => k_is)
    (case k9 => k_is)
    (case a10 => k_is)
    (case l10 => k_is)
    (case c10 => k_is)
    (case k10 => k_is)
    (case a11 => k_is)
    (case l11 => k_is)
    (case c11 => k_is)
    (case k11 => k_is)
    (case a12 => k_is)
    (case l12 => k_is)
    (case c12 => k_is)
    (case k12 => k_is)
    (case a13 => k_is)
    (case l13 => k_is)
    (case c13 => k_is)
    (case k13 => k_is)
    (case a14 => k_is)
    (case l14 => k_is)
    (case c14 => k_is)
    (case k14 => k_is)
    (case a15 => k_is)
    (case l15 => k_is)
    (case c15 => k_is)
    (case k15 => k_is)
    (case a16 => k_is)
    (case l16 => k_is)
    (case c16 => k_is)
    (case k16 => k_is)
    (case a17 => k_is)
    (case l17 => k_is)
    (case c17 => k_is)
    (case k17 => k_is)
    (case a18 => k_is)
    (case l18 => k_is)
    (case c18 => k_is)
    (case k18 => k_is)
    (case a19 => k_is)
    (case l19 => k_is)
    (case c19 => k_is)
    (case k19 => k_is)
    (case a20 => k_is)
    (case l20 => k_is)
    (case c20 => k_is)
    (case k20 => k_is)
    (case a21 => k_is)
    (case l21 => k_is)
    (case c21 => k_is)
    (case k21 => k_is)
    (case a22 => k_is)
    (case l22 => k_is)
    (case c22 => k_is)
    (case k22 => k_is)
    (case a23 => k_is)
    (case l23 => k_is)
    (case c23 => k_is)
    (case k23 => k_is)
    (case a24 => k_is)
    (case l24 => k_is)
    (case c24 => k_is)
    (case k24 => k_is)
    (case a25 => k_is)
    (case l25 => k_is)
    (case c25 => k_is)
    (case k25 => k_is)
    (case a26 => k_is)
    (case l26 => k_is)
    (case c26 => k_is)
    (case k26 => k_is)
    (case a27 => k_is)
    (case l27 => k_is)
    (case c27 => k_is)
    (case k27 => k_is)
    (case a28 => k_is)
    (case l28 => k_is)
    (case c28 => k_is)
    (case k28 => k_is)
    (case a29 => k_is)
    (case i29 => k_is)
    (case l29 => k_is)
    (case c29 => k_is)
    (case k29 => k_is)
    (case a30 => k_is)
    (case i30 => k_is)
    (case l30 => k_is)
    (case dl30 => k_is)
    (case c30 => k_is)
    (case k30 => k_is)
    (case a31 => k_is)
    (case l31 => k_is)
    (case c31 => k_is)
    (case k31 => k_is)
    (case a32 => k_is)
    (case i32 => k_is)
    (case l32 => k_is)
    (case c32 => k_is)
    (case k32 => k_is)
    (case a33 => k_is)
    (case i33 => k_is)
    (case l33 => k_is)
    (case c33 => k_is)
    (case k33 => k_is)
    (case a34 => k_is)
    (case i34 => k_is)
    (case l34 => k_is)
    (case c34 => k_is)
    (case k34 => k_is)
    (case a35 => k_is)
    (case i35 => k_is)
    (case l35 => k_is)
    (case c35 => k_is)
    (case k35 => k_is)
    (case a36 => k_is)
    (case i36 => k_is)
    (case l36 => k_is)
    (case c36 => k_is)
    (case k36 => k_is)
    (case a37 => k_is)
    (case i37 => k_is)
    (case l37 => k_is)
    (case c37 => k_is)
    (case k37 => k_is)
    (case a38 => k_is)
    (case i38 => k_is)
    (case l38 => k_is)
    (case c38 => k_is)
    (case k38 => k_is)
    (case a39 => k_is)
    (case i39 => k_is)
    (case l39 => k_is)
    (case c39 => k_is)
    (case k39 => k_is)
    (case a40 => k_is)
    (case l40 => k_is)
    (case c40 => k_is)
    (case k40 => k_is)
    (case a41 => k_is)
    (case l41 => k_is)
    (case c41 => k_is)
    (case k41 => k_is)
    (case a42 => k_is)
    (case l42 => k_is)
    (case c42 => k_is)
    (case k42 => k_is)
    (case a43 => k_is)
    (case l43 => k_is)
    (case c43 => k_is)
    (case k43 => k_is)
    (case zb_abs => k_is)
    (case zb_all => k_is)
    (case zb_enumerate => k_is)
    (case zb_int => k_is)
    (case zb_isinstance => k_is)
    (case zb_len => k_is)
    (case zb_list => k_is)
    (case zb_max => k_is)
    (case zb_min => k_is)
    (case zb_ord => k_is)
    (case zb_range => k_is)
    (case zb_set => k_is)
    (case zb_str => k_is)
    (case zb_tuple => k_is)
    (case zc_MOST_NAMES => k_is)
    (case zc_NAME_LENGTH => k_is)
    (case zc_NAME_SIGNS => k_is)
    (case zc_IDENTIFIER_LENGTH => k_is)
    (case zc_LETTERS => k_is)
    (case zc_IDENTIFIER_SIGNS => k_is)
    (case zc_MOST_OUTPUTS => k_is)
    (case zc_MOST_NEEDS => k_is)
    (case zc_MOST_DIGITS => k_is)
    (case zc_NOTHING => k_is)
    (case zc_YES => k_is)
    (case zc_NO => k_is)
    (case hdig => k_is)
    (case tyR => k_is)
    (case ccR => first | rfl | k_is)
    (case clR => k_is)
    (case mrR => k_is)

