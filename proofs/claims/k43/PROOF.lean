import PyProof.Rows.All
import Wide.All
import OpenK.AllK
import Wide.FinOn
import HandS.Evl
import HandS.Codes
import HandS.Iter
import HandS.Dict
import HandS.Text
import HandS.Words
import HandS.Walk
import HandS.IsInst
import HandS.Steps
import HandS.More
import HandS.ReplaceList
import HandS.ReplaceLit
import HandS.Replace
import HandS.ExcInit
import HandS.ExcIs
import HandS.ExcField
import HandS.IntHex
import HandS.FStr
import KE.KExcIs
import KE.KxField
import HandS.WordsExc
import HandS.Defaults
import HandS.ReplaceDef
import HandS.TryMany
import HandS.WordsDict
import HandS.StrMore
import PyProof.StrOps2
import PyProof.Rows.SortShellAny
import PySem.Challenge.RW_kilnyard_k43_contents_of_a_store
set_option Elab.async false
set_option linter.all false
set_option maxRecDepth 100000
set_option maxHeartbeats 4000000
/-! Kn: what all our proofs share: named relations, values, comprehensions, promises of pure defs. -/
namespace Kn
open PySem PySem.Spec PyProof.Rows L2 Evl SX

/-! ### relations with a name -/
def rAddStr : R2 := fun x y H Q => ∃ i j, x = .str i ∧ y = .str j ∧ i.length + j.length ≤ sizeLine ∧ Q (.str (i ++ j)) H
theorem op_addS {X : Cx} : OpR X (binaryOp .Add) rAddStr := op_add_str
def rLenStr : List V → Hp → VK → Prop := fun xs H Q => ∃ z, xs = [.str z] ∧ z.length ≤ sizeLine ∧ Q (.int z.length) H
theorem cr_lenStr {X : Cx} : CallR X (.builtin "len") rLenStr := call_len_str
theorem cr_lenSeq {X : Cx} : CallR X (.builtin "len") (rLenS X.K) := call_len_seq
def rOrd : List V → Hp → VK → Prop := fun xs H Q => ∃ x, xs = [.str x] ∧ x.length = 1 ∧ Q (.int (x.cps.getD 0 0 : Nat)) H
theorem cr_ord {X : Cx} : CallR X (.builtin "ord") rOrd := call_ord
def rInt1 : List V → Hp → VK → Prop := fun xs H Q => (∃ i, xs = [.int i] ∧ Q (.int i) H) ∨ ∃ k, xs = [.bl k] ∧ Q (.int (if k then 1 else 0)) H
theorem cr_int1 {X : Cx} : CallR X (.type "int") rInt1 := call_int1
def rAbs : List V → Hp → VK → Prop := fun xs H Q => ∃ i, xs = [.int i] ∧ Q (.int (if i < 0 then -i else i)) H
theorem cr_abs {X : Cx} : CallR X (.builtin "abs") rAbs := call_abs
def rJoin (K : PySem.W.Frag) : V → List V → Hp → VK → Prop := fun x xs H Q => ∃ a p, ∃ ys : List Str, x = .str a ∧ xs = [.ref p] ∧ (SqL K H p (ys.map V.str) ∨ SqT K H p (ys.map V.str)) ∧ (ys.map (·.length)).sum + ys.length * a.length ≤ 16777216 ∧ Q (.str (Txt.join a ys)) H
theorem pe_joinN {X : Cx} {e : Expr} {to te : TE} (h : PE X e (tM1 (fun x xs H Q => ∃ a p, ∃ ys : List Str, x = .str a ∧ xs = [.ref p] ∧ (SqL X.K H p (ys.map V.str) ∨ SqT X.K H p (ys.map V.str)) ∧ (ys.map (·.length)).sum + ys.length * a.length ≤ 16777216 ∧ Q (.str (Txt.join a ys)) H) to te)) : PE X e (tM1 (rJoin X.K) to te) := h
theorem cr_isi {X : Cx} : CallR X (.builtin "isinstance") (rIsi X.K) := call_isi

/-! ### values -/
section
variable {K : PySem.W.Frag} {σ : L2.St} {H H' : Hp} {ta tb te tc : TE} {t u : TT} {x y z v : V}
theorem val_abs (i : Int) : (if i < 0 then -i else i) = (i.natAbs : Int) := by split <;> omega
theorem rc_abs {i : Int} : RC rAbs [.int i] H (.int (i.natAbs : Int)) := fun H1 _ _ q => ⟨i, rfl, by rw [val_abs]; exact q H1 (Ex.refl H1)⟩
theorem rc_int {i : Int} : RC rInt1 [.int i] H (.int i) := fun H1 _ _ q => .inl ⟨i, rfl, q H1 (Ex.refl H1)⟩
theorem rc_intB {b : Bool} : RC rInt1 [.bl b] H (.int (if b then 1 else 0)) := fun H1 _ _ q => .inr ⟨b, rfl, q H1 (Ex.refl H1)⟩
theorem rc_ord {c : Nat} : RC rOrd [.str (S [c])] H (.int (c : Int)) := fun H1 _ _ q => ⟨S [c], rfl, rfl, q H1 (Ex.refl H1)⟩
theorem rc_lenS {l : List Nat} (h : l.length ≤ 100000) : RC rLenStr [.str (S l)] H (.int (l.length : Int)) := fun H1 _ _ q => ⟨S l, rfl, by rw [S_len]; exact sz_of h, by rw [S_len]; exact q H1 (Ex.refl H1)⟩
theorem rv_addS {a b : List Nat} (h : a.length + b.length ≤ 100000) : RV rAddStr (.str (S a)) (.str (S b)) H (.str (S (a ++ b))) := fun H1 _ _ q =>
  ⟨S a, S b, rfl, rfl, by rw [S_len, S_len]; exact sz_of h, by rw [S_cat]; exact q H1 (Ex.refl H1)⟩
theorem rv_mod {i j : Int} (h : 0 < j) : RV (rI (fun _ j => 0 < j) fun i j => .int (i % j)) (.int i) (.int j) H (.int (i % j)) := rv_I h
theorem rv_fdiv {i j : Int} (h : CDiv i j) : RV (rI CDiv fun i j => .int (i / j)) (.int i) (.int j) H (.int (i / j)) := rv_I h
theorem rv_mul {i j : Int} (h : CMul i j) : RV (rI CMul fun i j => .int (i * j)) (.int i) (.int j) H (.int (i * j)) := rv_I h
theorem S1 (x : Str) {l : List Nat} (h : x.cps.toList = l) : x = S l := TL.ext_tl h
theorem ev_chain {r r' : R2} {k b : Bool} (ha : Ev ta σ H x) (hb : Ev tb σ H y) (hr : RV r x y H (.bl k)) (hc : Ev tc σ H z) (hr' : RV r' y z H (.bl b)) : Ev (tChain r r' ta tb tc) σ H (.bl (k && b)) := fun H1 e Q q =>
  ha H1 e _ fun H2 e2 => hb H2 (e.trans e2) _ fun H3 e3 => hr H3 ((e.trans e2).trans e3) _ fun H4 e4 => ⟨k, rfl, by
    have e14 := (e2.trans e3).trans e4
    cases k with
    | true =>
      show tc σ H4 fun w' H5 => r' y w' H5 Q
      exact hc H4 (e.trans e14) _ fun H5 e5 => hr' H5 ((e.trans e14).trans e5) Q fun H6 e6 => q H6 ((e14.trans e5).trans e6)
    | false =>
      show Q (.bl false) H4
      exact q H4 e14⟩
theorem ev_idxS {l : List Nat} {i : Int} {c : Nat} (ha : Ev ta σ H (.str (S l))) (hb : Ev tb σ H (.int i)) (h : l.length ≤ 100000) (hat : atI l i = some c) : Ev (tOp rIxS ta tb) σ H (.str (S [c])) := ev_op ha hb (rv_ixS (w := S l) (by rw [S_len]; exact h) hat)
theorem atI_nat' {α : Type} {xs : List α} {i : Int} {j : Nat} {v : α} (hi : i = (j : Int)) (h : xs[j]? = some v) : atI xs i = some v := by
  subst hi
  exact atI_nat h
theorem ev_join {s : List Nat} {ys : List (List Nat)} (hs : Ev ta σ H (.str (S s))) (hl : EvL tb σ H (ys.map fun l => V.str (S l))) (hz : (ys.map (·.length)).sum + ys.length * s.length ≤ 16777216) : Ev (tM1 (rJoin K) ta tb) σ H (.str (S (TL.joinL s ys))) := fun H1 e Q q =>
  hs H1 e _ fun H2 e2 => ⟨⟨_, rfl⟩, hl H2 (e.trans e2) _ fun p H3 _ e3 hp => ⟨S s, p, ys.map S, rfl, rfl, .inl (.inl (.inl (by rw [List.map_map]; exact hp))), by
    rw [SX.lens, List.length_map, S_len]
    exact hz, by
    rw [SX.join_S]
    exact q H3 (e2.trans e3)⟩⟩
theorem ev_slS {to tp : TO} {l : List Nat} {lo hi : Option Int} (h : Ev te σ H (.str (S l))) (h1 : EvO to σ H lo) (h2 : EvO tp σ H hi) (hz : l.length ≤ 100000) : Ev (tSl rSlS te to tp) σ H (.str (cutS (S l) lo hi)) := fun H1 e _ q =>
  h H1 e _ fun H2 e2 => h1 H2 (e.trans e2) _ fun H3 e3 => h2 H3 ((e.trans e2).trans e3) _ fun H4 e4 => ⟨S l, rfl, by rw [S_len]; exact sz_of hz, q H4 ((e2.trans e3).trans e4)⟩
theorem ev_isi {T : String} {c : String} {b : Bool} (ha : Ev ta σ H x) (ht : TyX K H x (.type T)) (hb : kitB T c = some b) (hm : ∀ H1, Ex H H1 → TyX K H1 x (.type T)) : Ev (tCB (rIsi K) (tCons ta (tCons (tC (.ty c)) tNil))) σ H (.bl b) := fun H1 e Q q =>
  ha H1 e _ fun H2 e2 => ⟨x, .ty c, .type T, .type c, b, rfl, .ty c, hm H2 (e.trans e2), kit_ty hb, q H2 e2⟩
theorem ev_all {τ : Type} {xs : List τ} {p : τ → Bool} (ha : EvL ta σ H (xs.map fun a => V.bl (p a))) : Ev (tCB (rAll K) (tCons ta tNil)) σ H (.bl (xs.all p)) := fun H1 e Q q =>
  ha H1 e _ fun a H2 _ e2 h2 => ⟨a, xs.map p, rfl, sq_of (by rw [List.map_map]; exact h2), by
    have hh : (xs.map p).all id = xs.all p := by rw [List.all_map]; rfl
    rw [hh]
    exact q H2 e2⟩

/-! ### comprehensions: no test, a new list of what each item gives -/
theorem given_all {α : Type} {xs : List α} {f : α → V} {d : V} : given xs.length (fun _ => true) (fun i => (xs[i]?.map f).getD d) = xs.map f := by
  unfold given
  rw [List.filter_eq_self.mpr (fun _ _ => rfl)]
  refine List.ext_getElem (by simp) fun i h1 h2 => ?_
  simp at h1 h2
  simp [h2]
theorem et_yes {H : Hp} : EvT tYes σ H true := fun H1 _ _ q => q H1 (Ex.refl H1)
theorem el_lcM {τ : Type} {a : Addr} {ns : List τ} {g f : τ → V} {tl : TE} {j : Nat} {vs : List Nat} (h : Ev tl σ H (.ref a)) (hx : SqL K H a (ns.map g)) (hz : ns.length ≤ 40000) (hw : ∀ x, wipe ((wipe σ vs).set j (some x)) vs = wipe σ vs)
    (he : ∀ n ∈ ns, ∀ H1, Ex H H1 → Ev te ((wipe σ vs).set j (some (g n))) H1 (f n)) : EvL (tLc (iList K tl) (gName j) tYes te vs) σ H (ns.map f) := by
  have k := el_lcL (K := K) (te := te) (t := tYes) (j := j) (vs := vs) (fun _ => true) (fun i => (ns[i]?.map f).getD .non) h hx (by rw [List.length_map]; exact hz) hw (fun _ _ H1 _ _ => et_yes) (fun i x H1 e hi _ => by
    rw [List.getElem?_map] at hi
    cases hn : ns[i]? with
    | none => rw [hn] at hi; cases hi
    | some n =>
      rw [hn] at hi
      cases Option.some.inj hi
      exact he n (List.mem_of_getElem? hn) H1 e)
  rw [List.length_map, given_all] at k
  exact k
theorem el_lcN {τ : Type} {ns : List τ} {g f : τ → V} {tl : TE} {j : Nat} {vs : List Nat} (h : EvL tl σ H (ns.map g)) (hz : ns.length ≤ 40000) (hw : ∀ x, wipe ((wipe σ vs).set j (some x)) vs = wipe σ vs)
    (he : ∀ n ∈ ns, ∀ H1, Ex H H1 → Ev te ((wipe σ vs).set j (some (g n))) H1 (f n)) : EvL (tLc (iList K tl) (gName j) tYes te vs) σ H (ns.map f) := by
  have k := el_lcNL (K := K) (te := te) (t := tYes) (j := j) (vs := vs) (fun _ => true) (fun i => (ns[i]?.map f).getD .non) h (by rw [List.length_map]; exact hz) hw (fun _ _ H1 _ _ => et_yes) (fun i x H1 e hi _ => by
    rw [List.getElem?_map] at hi
    cases hn : ns[i]? with
    | none => rw [hn] at hi; cases hi
    | some n =>
      rw [hn] at hi
      cases Option.some.inj hi
      exact he n (List.mem_of_getElem? hn) H1 e)
  rw [List.length_map, given_all] at k
  exact k
theorem el_lcR {n : Int} {f : Nat → V} {ta : TA} {j : Nat} {vs : List Nat} (h : EvA ta σ H [.int n]) (hn : 0 ≤ n ∧ n ≤ 40000) (hw : ∀ x, wipe ((wipe σ vs).set j (some x)) vs = wipe σ vs)
    (he : ∀ (i : Nat) H1, Ex H H1 → (i : Int) < n → Ev te ((wipe σ vs).set j (some (.int (i : Int)))) H1 (f i)) : EvL (tLc (iRng1 ta) (gName j) tYes te vs) σ H ((List.range n.toNat).map f) := by
  have k := el_lcR1 (te := te) (t := tYes) (j := j) (vs := vs) (fun _ => true) f h hn hw (fun _ H1 _ _ => et_yes) (fun i H1 e hi _ => he i H1 e hi)
  unfold given at k
  rw [List.filter_eq_self.mpr (fun _ _ => rfl)] at k
  exact k
/-- over the signs of a text -/
theorem el_lcS {l : List Nat} {f : Nat → V} {ts : TE} {j : Nat} {vs : List Nat} (h : Ev ts σ H (.str (S l))) (hz : l.length ≤ 40000) (hw : ∀ x, wipe ((wipe σ vs).set j (some x)) vs = wipe σ vs)
    (he : ∀ c ∈ l, ∀ H1, Ex H H1 → Ev te ((wipe σ vs).set j (some (.str (S [c])))) H1 (f c)) : EvL (tLc (iStr ts) (gName j) tYes te vs) σ H (l.map f) := fun H0 e Q q => h H0 e _ fun H1 e1 => ⟨S l, rfl, fun Dl hD => by
  have hl : (S l).cps.size = l.length := by simp [S]
  refine lc_it walk_str (Cw H1 (fun _ => true) (fun i => (l[i]?.map f).getD .non) Dl) ⟨hD, Ex.new hD, upd_same⟩ (fun _ _ _ _ => trivial) (fun i x H2 H3 hi p y => ?_) (fun H2 p => ?_)
  · obtain ⟨rfl, c, hc, rfl⟩ := y
    have hc' : l[i]? = some c := by simpa [S] using hc
    refine ⟨hw _, cw_turn p (by rw [hl] at hi; omega) et_yes (fun _ => ?_)⟩
    rw [hc']
    exact he c (List.mem_of_getElem? hc') H1 (e.trans e1)
  · rw [hl] at p
    have := p.2.2
    rw [given_all] at this
    exact q Dl H2 (fresh_back e1 p.1) (e1.trans p.2.1) this⟩
end

/-! ### promises of pure defs: a value, a new list -/
def Rt (H : Hp) (v : V) (Q : VK) : Prop := ∀ H1, Ex H H1 → Q v H1
def Rl (H : Hp) (xs : List V) (Q : VK) : Prop := ∀ p H1, H p = none → Ex H H1 → H1 p = some (.lst xs) → Q (.ref p) H1
def sp1 {α : Type} (A : α → List V) (pre : α → Hp → Prop) (val : α → V) : Sp := fun vs H Q _ => ∃ a, vs = A a ∧ pre a H ∧ Rt H (val a) Q
def sp2 {α β : Type} (A : α → β → List V) (pre : α → β → Hp → Prop) (val : α → β → V) : Sp := fun vs H Q _ => ∃ a b, vs = A a b ∧ pre a b H ∧ Rt H (val a b) Q
def sp3 {α β γ : Type} (A : α → β → γ → List V) (pre : α → β → γ → Hp → Prop) (val : α → β → γ → V) : Sp := fun vs H Q _ => ∃ a b c, vs = A a b c ∧ pre a b c H ∧ Rt H (val a b c) Q
def sl1 {α : Type} (A : α → List V) (pre : α → Hp → Prop) (val : α → List V) : Sp := fun vs H Q _ => ∃ a, vs = A a ∧ pre a H ∧ Rl H (val a) Q
def sl2 {α β : Type} (A : α → β → List V) (pre : α → β → Hp → Prop) (val : α → β → List V) : Sp := fun vs H Q _ => ∃ a b, vs = A a b ∧ pre a b H ∧ Rl H (val a b) Q
def sl3 {α β γ : Type} (A : α → β → γ → List V) (pre : α → β → γ → Hp → Prop) (val : α → β → γ → List V) : Sp := fun vs H Q _ => ∃ a b c, vs = A a b c ∧ pre a b c H ∧ Rl H (val a b c) Q
section
variable {K : PySem.W.Frag} {σ : L2.St} {H H' : Hp} {ta : TA} {E : XK} {α β γ : Type}
theorem ev_c1 {A : α → List V} {pre : α → Hp → Prop} {val : α → V} {a : α} (h : EvA ta σ H (A a)) (hp : ∀ H1, Ex H H1 → pre a H1) : Ev (tCall (sp1 A pre val) [] E ta) σ H (val a) := fun H1 e Q q =>
  h H1 e _ fun H2 e2 => ⟨a, List.append_nil _, hp H2 (e.trans e2), fun H3 e3 => q H3 (e2.trans e3)⟩
theorem ev_c2 {A : α → β → List V} {pre : α → β → Hp → Prop} {val : α → β → V} {a : α} {b : β} (h : EvA ta σ H (A a b)) (hp : ∀ H1, Ex H H1 → pre a b H1) : Ev (tCall (sp2 A pre val) [] E ta) σ H (val a b) := fun H1 e Q q =>
  h H1 e _ fun H2 e2 => ⟨a, b, List.append_nil _, hp H2 (e.trans e2), fun H3 e3 => q H3 (e2.trans e3)⟩
theorem ev_c3 {A : α → β → γ → List V} {pre : α → β → γ → Hp → Prop} {val : α → β → γ → V} {a : α} {b : β} {c : γ} (h : EvA ta σ H (A a b c)) (hp : ∀ H1, Ex H H1 → pre a b c H1) : Ev (tCall (sp3 A pre val) [] E ta) σ H (val a b c) := fun H1 e Q q =>
  h H1 e _ fun H2 e2 => ⟨a, b, c, List.append_nil _, hp H2 (e.trans e2), fun H3 e3 => q H3 (e2.trans e3)⟩
theorem el_c1 {A : α → List V} {pre : α → Hp → Prop} {val : α → List V} {a : α} (h : EvA ta σ H (A a)) (hp : ∀ H1, Ex H H1 → pre a H1) : EvL (tCall (sl1 A pre val) [] E ta) σ H (val a) := fun H1 e Q q =>
  h H1 e _ fun H2 e2 => ⟨a, List.append_nil _, hp H2 (e.trans e2), fun p H3 hp e3 h3 => q p H3 (fresh_back e2 hp) (e2.trans e3) h3⟩
theorem el_c2 {A : α → β → List V} {pre : α → β → Hp → Prop} {val : α → β → List V} {a : α} {b : β} (h : EvA ta σ H (A a b)) (hp : ∀ H1, Ex H H1 → pre a b H1) : EvL (tCall (sl2 A pre val) [] E ta) σ H (val a b) := fun H1 e Q q =>
  h H1 e _ fun H2 e2 => ⟨a, b, List.append_nil _, hp H2 (e.trans e2), fun p H3 hp e3 h3 => q p H3 (fresh_back e2 hp) (e2.trans e3) h3⟩
theorem el_c3 {A : α → β → γ → List V} {pre : α → β → γ → Hp → Prop} {val : α → β → γ → List V} {a : α} {b : β} {c : γ} (h : EvA ta σ H (A a b c)) (hp : ∀ H1, Ex H H1 → pre a b c H1) : EvL (tCall (sl3 A pre val) [] E ta) σ H (val a b c) := fun H1 e Q q =>
  h H1 e _ fun H2 e2 => ⟨a, b, c, List.append_nil _, hp H2 (e.trans e2), fun p H3 hp e3 h3 => q p H3 (fresh_back e2 hp) (e2.trans e3) h3⟩
/-- a call one of whose arguments is a new list: f([..]) -/
theorem ev_c1L {τ : Type} {te : TE} {A : Addr → List τ → List V} {pre : Addr → List τ → Hp → Prop} {val : Addr → List τ → V} {v : V} {xs : List V} (h : EvL te σ H xs) (ns : List τ) (hA : ∀ p, A p ns = [.ref p]) (hp : ∀ p H1, Ex H H1 → H1 p = some (.lst xs) → pre p ns H1) (hv : ∀ p, val p ns = v) :
    Ev (tCall (sp2 A pre val) [] E (tCons te tNil)) σ H v := fun H1 e Q q =>
  h H1 e _ fun p H2 hn e2 h2 => ⟨p, ns, by rw [hA]; rfl, hp p H2 (e.trans e2) h2, fun H3 e3 => by
    rw [hv]
    exact q H3 (e2.trans e3)⟩
end

/-! ### a def that may be called by its name -/
structure Cl (P : Program) (w : World) (K : PySem.W.Frag) (mg : Str → Option Value) (base : Heap) (k : Nat) (x : Str) (sp : Sp) : Prop where
  ex : ∃ (f : Addr) (fd : FuncData) (ps : List Str), FnOk P w K mg base CX0 k f fd ps sp ∧ mg x = some (.ref f) ∧ PySem.W.keepIn K (.ref f) = true ∧ Binds K fd ps []
section
variable {P : Program} {w : World} {K : PySem.W.Frag} {mg : Str → Option Value} {base : Heap}
theorem cl_of {k : Nat} {x : Str} {sp : Sp} {st : Stmt} {f : Addr} {fd : FuncData} {ps : List Str} (ok : FnOk P w K mg base CX0 k f fd ps sp) (F : Fun K x x st f fd) (g : mg x = some (.ref f)) (b : Binds K fd ps []) : Cl P w K mg base k x sp := ⟨f, fd, ps, ok, g, F.kp, b⟩
variable {X : Cx} {k j : Nat} {x : Str} {sp : Sp} {p pos : Pos} {e : Expr} {es : List Expr} {t : TA}
theorem pe_cl (c : Cl X.prog X.w X.K X.mg X.base k x sp) (hr : Room j X.A) (hk : k ≤ j) (hg : Gl X x) (ha : PA X (e :: es) t)
    (hdb : (x == ("__debug__" : Str)) = false := by decide) (he : starEach (e :: es) X.env = (false, eval e X.env) :: starEach es X.env := by rfl) (hpl : (backTo pos (starEach es X.env)).any (·.1) = false := by rfl) :
    PE X (.Call (.Name x p) (e :: es) [] pos) (tCall sp [] E0 t) := by
  obtain ⟨f, fd, ps, F, hm, kp, b⟩ := c.ex
  exact pe_call F (hr.mono hk) hg hm kp b .nil pass0 ha hdb he hpl
theorem pe_cl0 (c : Cl X.prog X.w X.K X.mg X.base k x sp) (hr : Room j X.A) (hk : k ≤ j) (hg : Gl X x)
    (hdb : (x == ("__debug__" : Str)) = false := by decide) :
    PE X (.Call (.Name x p) [] [] pos) (tCall sp [] E0 tNil) := by
  obtain ⟨f, fd, ps, F, hm, kp, b⟩ := c.ex
  exact pe_call0 F (hr.mono hk) hg hm kp b .nil pass0 hdb
end
end Kn
/-! ### values, step by step -/
namespace Kn
open PySem PySem.Spec PyProof.Rows L2 Evl SX
section
variable {H : Hp}
theorem rv_eqI {a b : Int} : RV rEq (.int a) (.int b) H (.bl (decide (a = b))) := fun H1 _ _ q => ⟨rfl, by
  have e : decide (V.int a = V.int b) = decide (a = b) := by simp
  rw [e]
  exact q H1 (Ex.refl H1)⟩
theorem rv_neI {a b : Int} : RV rNe (.int a) (.int b) H (.bl (!decide (a = b))) := fun H1 _ _ q => ⟨rfl, by
  have e : decide (V.int a = V.int b) = decide (a = b) := by simp
  rw [e]
  exact q H1 (Ex.refl H1)⟩
theorem dec_S {a b : List Nat} : decide (V.str (S a) = V.str (S b)) = decide (a = b) := by
  by_cases h : a = b
  · subst h
    simp
  · rw [decide_eq_false h, decide_eq_false (fun e => h (S_inj (V.str.inj e)))]
theorem rv_eqS {a b : List Nat} : RV rEq (.str (S a)) (.str (S b)) H (.bl (decide (a = b))) := fun H1 _ _ q => ⟨rfl, by
  rw [dec_S]
  exact q H1 (Ex.refl H1)⟩
theorem rv_neS {a b : List Nat} : RV rNe (.str (S a)) (.str (S b)) H (.bl (!decide (a = b))) := fun H1 _ _ q => ⟨rfl, by
  rw [dec_S]
  exact q H1 (Ex.refl H1)⟩
theorem rv_le {a b : Int} : RV (rI0 fun i j => .bl (decide (i ≤ j))) (.int a) (.int b) H (.bl (decide (a ≤ b))) := rv_I0
theorem rv_lt {a b : Int} : RV (rI0 fun i j => .bl (decide (i < j))) (.int a) (.int b) H (.bl (decide (a < b))) := rv_I0
theorem rv_inS {c : Nat} {l : List Nat} : RV rInS (.str (S [c])) (.str (S l)) H (.bl (decide (c ∈ l))) := fun H1 _ _ q => ⟨c, S l, rfl, rfl, q H1 (Ex.refl H1)⟩
theorem rv_ninS {c : Nat} {l : List Nat} : RV rNotInS (.str (S [c])) (.str (S l)) H (.bl (!decide (c ∈ l))) := fun H1 _ _ q => ⟨c, S l, rfl, rfl, q H1 (Ex.refl H1)⟩
end
end Kn
/-! ### lists cut, texts cut, constants -/
namespace Kn
open PySem PySem.Spec PyProof.Rows L2 Evl SX
theorem cut_nat {α : Type} (xs : List α) (a b : Nat) : (xs.drop (min a xs.length)).take (min b xs.length - min a xs.length) = (xs.drop a).take (b - a) := by
  by_cases h : a ≤ xs.length
  · have e : min a xs.length = a := Nat.min_eq_left h
    rw [e, List.take_eq_take_iff, List.length_drop]
    omega
  · have e : xs.drop a = [] := List.drop_of_length_le (by omega)
    have e2 : xs.drop (min a xs.length) = [] := List.drop_of_length_le (by omega)
    rw [e, e2, List.take_nil, List.take_nil]
theorem cutV_nat {xs : List V} (a b : Nat) : cutV xs (some (a : Int)) (some (b : Int)) = (xs.drop a).take (b - a) := by
  unfold cutV
  rw [HT.sIx_nat, HT.sIx_nat]
  exact cut_nat xs a b
theorem cutV_map {τ : Type} {g : τ → V} {ns : List τ} {i j : Int} (a b : Nat) (hi : i = (a : Int)) (hj : j = (b : Int)) : cutV (ns.map g) (some i) (some j) = ((ns.drop a).take (b - a)).map g := by
  subst hi hj
  rw [cutV_nat, List.map_take, List.map_drop]
theorem join_nil : ∀ ys : List (List Nat), TL.joinL [] ys = ys.flatten
  | [] => rfl
  | [p] => by rw [List.flatten_cons, List.flatten_nil, List.append_nil]; rfl
  | p :: q :: r => by
    show p ++ ([] ++ TL.joinL [] (q :: r)) = _
    rw [join_nil (q :: r), List.nil_append, List.flatten_cons (l := p)]
section
variable {K : PySem.W.Frag} {σ : L2.St} {H H' : Hp} {ta tb te tc : TE} {t u : TT} {x y z v : V}
theorem ev_cS {x : Str} {l : List Nat} (h : x.cps.toList = l) : Ev (tC (.str x)) σ H (.str (S l)) := by
  rw [S1 x h]
  exact ev_c
theorem el_slN {τ : Type} {g : τ → V} {ns : List τ} {i j : Int} {p : Addr} {to tp : TO} (h : Ev te σ H (.ref p)) (h1 : EvO to σ H (some i)) (h2 : EvO tp σ H (some j)) (hs : SqL K H p (ns.map g)) (a b : Nat) (hi : i = (a : Int)) (hj : j = (b : Int)) :
    EvL (tSl (rSlL K) te to tp) σ H (((ns.drop a).take (b - a)).map g) := by
  rw [← cutV_map a b hi hj]
  exact el_sl h h1 h2 hs
theorem ev_slTo {to tp : TO} {l : List Nat} {i : Int} (h : Ev te σ H (.str (S l))) (h1 : EvO to σ H none) (h2 : EvO tp σ H (some i)) (hz : l.length ≤ 100000) (hi : 0 ≤ i) : Ev (tSl rSlS te to tp) σ H (.str (S (l.take i.toNat))) := by
  have k := ev_slS h h1 h2 hz
  rw [C8.cutS_slice, slice_to hi] at k
  exact k
theorem ev_slFrom {to tp : TO} {l : List Nat} {i : Int} (h : Ev te σ H (.str (S l))) (h1 : EvO to σ H (some i)) (h2 : EvO tp σ H none) (hz : l.length ≤ 100000) (hi : 0 ≤ i) : Ev (tSl rSlS te to tp) σ H (.str (S (l.drop i.toNat))) := by
  have k := ev_slS h h1 h2 hz
  rw [C8.cutS_slice, slice_from hi] at k
  exact k
theorem ev_isiB {b : Bool} (ha : Ev ta σ H (.bl b)) : Ev (tCB (rIsi K) (tCons ta (tCons (tC (.ty "bool")) tNil))) σ H (.bl true) := ev_isi (T := "bool") ha (.base (.bl b)) (by decide +kernel) fun _ _ => .base (.bl b)
/-- == of two lists of data -/
theorem eqv_lists {xs ys : List PyData} (h : PyData.eqv (.list xs) (.list ys) = b) : PyData.eqv (.list xs) (.list ys) = b := h
end
end Kn
namespace Kn
open PySem PySem.Spec PyProof.Rows L2 Evl SX
section
variable {K : PySem.W.Frag} {σ : L2.St} {H H' : Hp} {ta tb te tc : TE} {t u : TT} {x y z v : V} {D : Ends} {tu tw tz : TS}
/-- an if whose two ways meet again -/
theorem q_ifM {b : Bool} (M : L2.St → Hp → Prop) (h : EvT t σ H b) (h1 : b = true → ∀ H1, Ex H H1 → ∀ N : L2.St → Hp → Prop, (∀ σ' H', M σ' H' → N σ' H') → tu { D with nx := N } σ H1)
    (h2 : b = false → ∀ H1, Ex H H1 → ∀ N : L2.St → Hp → Prop, (∀ σ' H', M σ' H' → N σ' H') → tw { D with nx := N } σ H1) (k : ∀ σ' H', M σ' H' → tz D σ' H') : tSeq (tIfS t tu tw) tz D σ H :=
  s_if (D := { D with nx := tz D }) h (fun hb H1 e => h1 hb H1 e _ k) (fun hb H1 e => h2 hb H1 e _ k)
theorem s_next (h : D.nx σ H) : tNext D σ H := h
theorem eqD_true {p q : Addr} {xs : List V} {ds : List PyData} (hp : SqL K H p xs) (hq : SqL K H q xs) (hd : ∀ H1, Ex H H1 → DpAll K H1 xs ds) (hs : SeqAt.shaped (.list ds) = true) (hl : PyData.eqv (.list ds) (.list ds) = true) : RV (rEqD K) (.ref p) (.ref q) H (.bl true) := fun H1 e Q k =>
  ⟨.list ds, .list ds, .lst (ex_l e hp) (hd H1 e), .lst (ex_l e hq) (hd H1 e), hs, hs, by rw [hl]; exact k H1 (Ex.refl H1)⟩
end
end Kn
/-! ### rpartition; joins; more of lists -/
namespace Kn
open PySem PySem.Spec PyProof.Rows L2 Evl SX
def rRpart : V → List V → Hp → VK → Prop := fun x xs H Q => ∃ a b, x = .str a ∧ xs = [.str b] ∧ (b.length == 0) = false ∧ a.length ≤ sizeLine ∧ ∀ p, H p = none → Q (.ref p) (upd H p (.tup [.str (Txt.rpartition a b).1, .str (Txt.rpartition a b).2.1, .str (Txt.rpartition a b).2.2]))
theorem mt_rpartition {X : Cx} : MtR X "str.rpartition" rRpart := by
  intro pins s σ H x xs v us Q I rx rs h
  obtain ⟨a, b, rfl, rfl, hb, hz, h⟩ := h
  obtain ⟨t, rfl⟩ := rx
  cases rs with
  | cons r1 rs =>
    cases rs
    obtain ⟨u, rfl⟩ := r1
    refine call_meets F.slot_str_rpartition (typeIs_str _ _ _) F.entry_str_rpartition (F.args_str_rpartition_2 _ _) (meets_str_rpartition a b t u hb hz) ?_
    unfold Txt.rpartition at h
    revert h
    cases Builtin.Str.lastOccurrence a b 0 a.length with
    | none => intro h; exact laid_parts I h
    | some i => intro h; exact laid_parts I h
section
variable {K : PySem.W.Frag} {σ : L2.St} {H H' : Hp} {ta tb te tc : TE} {t u : TT} {x y z v : V}
theorem ev_rpart0 {l m : List Nat} (ha : Ev ta σ H (.str (S l))) (hb : Ev tb σ H (.str (S m))) (hm : m ≠ []) (hl : l.length ≤ 100000) : Ev (tOp (rIxT K) (tM1 rRpart ta tb) (tC (.int 0))) σ H (.str (Txt.rpartition (S l) (S m)).1) := fun H1 e Q q =>
  ha H1 e _ fun H2 e2 => ⟨⟨_, rfl⟩, hb H2 (e.trans e2) _ fun H3 e3 => ⟨S l, S m, rfl, rfl, by
    rw [S_len]
    cases m with
    | nil => exact absurd rfl hm
    | cons a r => rfl, by rw [S_len]; exact sz_of hl, fun p hp =>
      ⟨p, _, 0, _, rfl, rfl, st_of upd_same, atI_nat (j := 0) rfl, q _ ((e2.trans e3).trans (Ex.new hp))⟩⟩⟩
theorem ev_joinV {s : List Nat} {ys : List (List Nat)} {p : Addr} (hs : Ev ta σ H (.str (S s))) (hl : Ev tb σ H (.ref p)) (hp : SqL K H p (ys.map fun l => V.str (S l))) (hz : (ys.map (·.length)).sum + ys.length * s.length ≤ 16777216) : Ev (tM1 (rJoin K) ta tb) σ H (.str (S (TL.joinL s ys))) := fun H1 e Q q =>
  hs H1 e _ fun H2 e2 => ⟨⟨_, rfl⟩, hl H2 (e.trans e2) _ fun H3 e3 => ⟨S s, p, ys.map S, rfl, rfl, .inl (by rw [List.map_map]; exact ex_l ((e.trans e2).trans e3) hp), by
    rw [SX.lens, List.length_map, S_len]
    exact hz, by
    rw [SX.join_S]
    exact q H3 (e2.trans e3)⟩⟩
theorem el_slTo {τ : Type} {g : τ → V} {ns : List τ} {j : Int} {p : Addr} {to tp : TO} (h : Ev te σ H (.ref p)) (h1 : EvO to σ H none) (h2 : EvO tp σ H (some j)) (hs : SqL K H p (ns.map g)) (b : Nat) (hj : j = (b : Int)) :
    EvL (tSl (rSlL K) te to tp) σ H ((ns.take b).map g) := by
  have e : cutV (ns.map g) none (some j) = (ns.take b).map g := by
    subst hj
    have k := cutV_nat (xs := ns.map g) 0 b
    unfold cutV at k ⊢
    rw [HT.sIx_none, HT.sIx_nat]
    rw [HT.sIx_nat, HT.sIx_nat, Nat.zero_min] at k
    rw [k, List.drop_zero, Nat.sub_zero, List.map_take]
  rw [← e]
  exact el_sl h h1 h2 hs
theorem ev_isiL {p : Addr} {xs : List V} (ha : Ev ta σ H (.ref p)) (h : H p = some (.lst xs)) : Ev (tCB (rIsi K) (tCons ta (tCons (tC (.ty "list")) tNil))) σ H (.bl true) := ev_isi (T := "list") ha (.base (.lst h)) (by decide +kernel) fun _ e => .base (.lst (e _ _ h))
theorem ev_isiS {l : Str} (ha : Ev ta σ H (.str l)) : Ev (tCB (rIsi K) (tCons ta (tCons (tC (.ty "str")) tNil))) σ H (.bl true) := ev_isi (T := "str") ha (.base (.str l)) (by decide +kernel) fun _ _ => .base (.str l)
theorem rv_ge {a b : Int} : RV (rI0 fun i j => .bl (decide (j ≤ i))) (.int a) (.int b) H (.bl (decide (b ≤ a))) := rv_I0
theorem rv_gt {a b : Int} : RV (rI0 fun i j => .bl (decide (j < i))) (.int a) (.int b) H (.bl (decide (b < a))) := rv_I0
theorem rv_pow {i j : Int} (h : CPow i j) : RV (rI CPow fun i j => .int (i ^ j.toNat)) (.int i) (.int j) H (.int (i ^ j.toNat)) := rv_I h
end
theorem joinL_snoc (s x : List Nat) : ∀ {l : List (List Nat)}, l ≠ [] → TL.joinL s (l ++ [x]) = TL.joinL s l ++ (s ++ x)
  | [], h => absurd rfl h
  | [p], _ => rfl
  | p :: q :: r, _ => by
    show p ++ (s ++ TL.joinL s ((q :: r) ++ [x])) = (p ++ (s ++ TL.joinL s (q :: r))) ++ (s ++ x)
    rw [joinL_snoc s x (List.cons_ne_nil q r)]
    simp only [List.append_assoc]
theorem joinL_ne {s p : List Nat} {r : List (List Nat)} (h : p ≠ []) : TL.joinL s (p :: r) ≠ [] := by
  cases r with
  | nil => exact h
  | cons q r =>
    intro z
    have : p ++ (s ++ TL.joinL s (q :: r)) = [] := z
    exact h (List.append_eq_nil_iff.mp this).1
theorem joinL_len (s : List Nat) : ∀ l : List (List Nat), (TL.joinL s l).length ≤ (l.map (·.length)).sum + l.length * s.length
  | [] => Nat.zero_le _
  | [p] => by
    show p.length ≤ p.length + 0 + 1 * s.length
    omega
  | p :: q :: r => by
    have ih := joinL_len s (q :: r)
    show (p ++ (s ++ TL.joinL s (q :: r))).length ≤ p.length + ((q :: r).map (·.length)).sum + ((q :: r).length + 1) * s.length
    rw [List.length_append, List.length_append, Nat.succ_mul]
    omega
theorem sum_le {l : List (List Nat)} {n : Nat} (h : ∀ p ∈ l, p.length ≤ n) : (l.map (·.length)).sum ≤ l.length * n := by
  induction l with
  | nil => simp
  | cons p r ih =>
    have h1 := h p List.mem_cons_self
    have h2 := ih fun q hq => h q (List.mem_cons_of_mem _ hq)
    rw [List.map_cons, List.sum_cons, List.length_cons, Nat.succ_mul]
    omega
theorem at_one {l : List Nat} {c i : Nat} : StrLaws.At (S l) (S [c]) (S l).length i ↔ l[i]? = some c := by
  rw [TL.at_iff (x := S l) (y := S [c]) (List.cons_ne_nil _ _)]
  show ((l.drop i).take 1 == [c]) = true ↔ l[i]? = some c
  rw [beq_iff_eq]
  constructor
  · intro h
    have e := congrArg (fun z : List Nat => z[0]?) h
    simpa using e
  · intro h
    obtain ⟨hi, e⟩ := List.getElem?_eq_some_iff.mp h
    rw [List.drop_eq_getElem_cons hi, e]
    rfl
theorem rpart_none {l : List Nat} {c : Nat} (h : c ∉ l) : (Txt.rpartition (S l) (S [c])).1 = S [] := by
  unfold Txt.rpartition
  rcases StrLaws.last_spec (S l) (S [c]) with ⟨h0, hn⟩ | ⟨i, h0, hi, hn⟩
  · rw [h0]
    rfl
  · exact absurd (List.mem_of_getElem? (at_one.mp hi)) h
theorem rpart_some {p q : List Nat} {c : Nat} (h : c ∉ q) : (Txt.rpartition (S (p ++ c :: q)) (S [c])).1 = S p := by
  have hp : (p ++ c :: q)[p.length]? = some c := by simp
  unfold Txt.rpartition
  rcases StrLaws.last_spec (S (p ++ c :: q)) (S [c]) with ⟨h0, hn⟩ | ⟨i, h0, hi, hn⟩
  · exact absurd (at_one.mpr hp) (hn _)
  · rw [h0]
    have e : i = p.length := by
      have h1 := at_one.mp hi
      rcases Nat.lt_trichotomy i p.length with z | z | z
      · exact absurd (at_one.mpr hp) (hn _ z)
      · exact z
      · rw [List.getElem?_append_right (by omega)] at h1
        obtain ⟨k, hk⟩ : ∃ k, i - p.length = k + 1 := ⟨i - p.length - 1, by omega⟩
        rw [hk, List.getElem?_cons_succ] at h1
        exact absurd (List.mem_of_getElem? h1) h
    subst e
    show PySem.Builtin.Str.strSub (S (p ++ c :: q)) 0 p.length = S p
    refine TL.ext_tl ?_
    rw [TL.tl_strSub]
    show ((p ++ c :: q).drop 0).take (p.length - 0) = p
    simp
end Kn
/-! ### rules that name the written part: for the elements of a comprehension -/
namespace Kn
open PySem PySem.Spec PyProof.Rows L2 Evl SX
section
variable {X : Cx} {K : PySem.W.Frag}
theorem sl_listK (h : X.K = K) : SlR X (rSlL K) := by subst h; exact sl_list
theorem sl_tupK (h : X.K = K) : SlR X (rSlT K) := by subst h; exact sl_tup
theorem ix_listK (h : X.K = K) : IxR X (rIxL K) := by subst h; exact ix_list
theorem ix_tupK (h : X.K = K) : IxR X (rIxT K) := by subst h; exact ix_tup
theorem cr_lenSeqK (h : X.K = K) : CallR X (.builtin "len") (rLenS K) := by subst h; exact cr_lenSeq
theorem cr_isiK (h : X.K = K) : CallR X (.builtin "isinstance") (rIsi K) := by subst h; exact cr_isi
theorem cr_allK (h : X.K = K) (hc : X.calm = true) : CallR X (.builtin "all") (rAll K) := by subst h; exact cr_all hc
theorem op_in_seqK (h : X.K = K) : OpR X (compareOp .In) (rIn K false) := by subst h; exact op_in_seq
theorem op_notIn_seqK (h : X.K = K) : OpR X (compareOp .NotIn) (rIn K true) := by subst h; exact op_notIn_seq
theorem pe_joinK {e : Expr} {to te : TE} (hK : X.K = K) (h : PE X e (tM1 (fun x xs H Q => ∃ a p, ∃ ys : List Str, x = .str a ∧ xs = [.ref p] ∧ (SqL X.K H p (ys.map V.str) ∨ SqT X.K H p (ys.map V.str)) ∧ (ys.map (·.length)).sum + ys.length * a.length ≤ 16777216 ∧ Q (.str (Txt.join a ys)) H) to te)) : PE X e (tM1 (rJoin K) to te) := by
  subst hK
  exact h
end
end Kn
/-! ### texts: split, count, startswith, replace; loops over signs -/
namespace Kn
open PySem PySem.Spec PyProof.Rows L2 Evl SX
def rSplit : V → List V → Hp → VK → Prop := fun x xs H Q => ∃ a b, x = .str a ∧ xs = [.str b] ∧ (b.length == 0) = false ∧ a.length + 2 ≤ sizeLine ∧ rNewStrs (Txt.split a b) H Q
theorem mt_split {X : Cx} : MtR X "str.split" rSplit := L2.mt_split
def rCount : V → List V → Hp → VK → Prop := fun x xs H Q => ∃ a b, x = .str a ∧ xs = [.str b] ∧ Q (.int (Txt.count a b)) H
theorem mt_count {X : Cx} : MtR X "str.count" rCount := L2.mt_count
def rStarts : V → List V → Hp → VK → Prop := fun x xs H Q => ∃ a b, x = .str a ∧ xs = [.str b] ∧ Q (.bl (Txt.startswith a b)) H
theorem mt_startswith {X : Cx} : MtR X "str.startswith" rStarts := L2.mt_startswith
def rEnds : V → List V → Hp → VK → Prop := fun x xs H Q => ∃ a b, x = .str a ∧ xs = [.str b] ∧ Q (.bl (Txt.endswith a b)) H
theorem mt_endswith {X : Cx} : MtR X "str.endswith" rEnds := L2.mt_endswith
/-- l cut at each c -/
def cut1 (c : Nat) (l : List Nat) : List (List Nat) := TL.spl [c] 0 [] l
theorem starts_one {l : List Nat} {c : Nat} : Txt.startswith (S l) (S [c]) = decide (l[0]? = some c) := by
  have h : StrLaws.At (S l) (S [c]) (S l).length 0 ↔ l[0]? = some c := at_one
  unfold Txt.startswith
  rw [Bool.eq_iff_iff, Bool.and_eq_true, decide_eq_true_eq, decide_eq_true_eq]
  exact h
theorem count_one {l : List Nat} {c : Nat} : Txt.count (S l) (S [c]) = cnt c l := count_is (S l) c
theorem spl_map {c : Nat} {f : Nat → Nat} (hc : ∀ d, f d = c ↔ d = c) : ∀ (l acc : List Nat), TL.spl [c] 0 (acc.map f) (l.map f) = (TL.spl [c] 0 acc l).map (List.map f)
  | [], acc => rfl
  | d :: r, acc => by
    by_cases e : d = c
    · have h1 : TL.pre [c] (d :: r) = true := by
        subst e
        exact TL.pre_self [d] r
      have h2 : TL.pre [c] (f d :: r.map f) = true := by
        have e2 := (hc d).mpr e
        rw [e2]
        exact TL.pre_self [c] (r.map f)
      rw [List.map_cons, TL.spl_hit h1, TL.spl_hit h2, List.map_cons]
      exact congrArg (fun z => acc.map f :: z) (spl_map hc r [])
    · have h1 : TL.pre [c] (d :: r) = false := TL.pre_of_head [] r e
      have h2 : TL.pre [c] (f d :: r.map f) = false := TL.pre_of_head [] _ fun z => e ((hc d).mp z)
      rw [List.map_cons, TL.spl_miss h1, TL.spl_miss h2, ← spl_map hc r (acc ++ [d]), List.map_append]
      rfl
theorem cut1_map {c : Nat} {f : Nat → Nat} (hc : ∀ d, f d = c ↔ d = c) (l : List Nat) : cut1 c (l.map f) = (cut1 c l).map (List.map f) := spl_map hc l []
/-- each sign but c is in a part -/
theorem spl_mem {c d : Nat} (hd : d ≠ c) : ∀ (l acc : List Nat), d ∈ acc ∨ d ∈ l → ∃ p ∈ TL.spl [c] 0 acc l, d ∈ p
  | [], acc, h => by
    rcases h with h | h
    · exact ⟨acc, List.mem_cons_self, h⟩
    · exact nomatch h
  | e :: r, acc, h => by
    by_cases ec : e = c
    · have h1 : TL.pre [c] (e :: r) = true := by
        subst ec
        exact TL.pre_self [e] r
      rw [TL.spl_hit h1]
      rcases h with h | h
      · exact ⟨acc, List.mem_cons_self, h⟩
      · rcases List.mem_cons.mp h with z | z
        · exact absurd (z.trans ec) hd
        · obtain ⟨p, hp, hm⟩ := spl_mem hd r [] (.inr z)
          exact ⟨p, List.mem_cons_of_mem _ hp, hm⟩
    · rw [TL.spl_miss (TL.pre_of_head [] r ec)]
      refine spl_mem hd r (acc ++ [e]) ?_
      rcases h with h | h
      · exact .inl (List.mem_append_left _ h)
      · rcases List.mem_cons.mp h with z | z
        · exact .inl (List.mem_append_right _ (by rw [z]; exact List.mem_cons_self))
        · exact .inr z
theorem cut1_mem {c d : Nat} (hd : d ≠ c) {l : List Nat} (h : d ∈ l) : ∃ p ∈ cut1 c l, d ∈ p := spl_mem hd l [] (.inr h)
theorem spl_bound (c : Nat) : ∀ (l acc : List Nat), (TL.spl [c] 0 acc l).length ≤ l.length + 1 ∧ ∀ p ∈ TL.spl [c] 0 acc l, p.length ≤ acc.length + l.length
  | [], acc => ⟨Nat.le_refl _, fun p hp => by rw [List.mem_singleton.mp hp]; exact Nat.le_add_right _ _⟩
  | e :: r, acc => by
    by_cases ec : e = c
    · have h1 : TL.pre [c] (e :: r) = true := by
        subst ec
        exact TL.pre_self [e] r
      have ih := spl_bound c r []
      rw [TL.spl_hit h1]
      refine ⟨Nat.succ_le_succ ih.1, fun p hp => ?_⟩
      rcases List.mem_cons.mp hp with z | z
      · rw [z]
        omega
      · have := ih.2 p z
        rw [List.length_cons]
        simp at this
        omega
    · have ih := spl_bound c r (acc ++ [e])
      rw [TL.spl_miss (TL.pre_of_head [] r ec)]
      refine ⟨by have := ih.1; rw [List.length_cons]; omega, fun p hp => ?_⟩
      have := ih.2 p hp
      rw [List.length_append] at this
      rw [List.length_cons]
      simp at this
      omega
theorem cut1_len (c : Nat) (l : List Nat) : (cut1 c l).length ≤ l.length + 1 := (spl_bound c l []).1
theorem cut1_part {c : Nat} {l p : List Nat} (h : p ∈ cut1 c l) : p.length ≤ l.length := by
  have := (spl_bound c l []).2 p h
  simpa using this
theorem repl_one {c d : Nat} : ∀ l : List Nat, StrLaws.replL [c] [d] l = l.map fun e => if e = c then d else e
  | [] => StrLaws.replL_nil
  | e :: r => by
    by_cases h : e = c
    · subst h
      rw [StrLaws.replL_hit (List.cons_ne_nil _ _) rfl, List.map_cons, if_pos rfl, ← repl_one r]
      rfl
    · rw [StrLaws.replL_miss (y := [c]) (show ¬ (e :: r).take [c].length = [c] from fun z => h (List.cons.inj (show e :: r.take 0 = [c] from z)).1), List.map_cons, if_neg h, repl_one r]
theorem replace_S {l : List Nat} {c d : Nat} : Txt.replace (S l) (S [c]) (S [d]) = S (l.map fun e => if e = c then d else e) := by
  refine TL.ext_tl ?_
  show (Txt.replace (S l) (S [c]) (S [d])).cps.toList = _
  exact (StrLaws.replace_list (show 1 ≤ (S [c]).length from Nat.le_refl 1)).trans (repl_one l)
section
variable {K : PySem.W.Frag} {σ : L2.St} {H H' : Hp} {ta tb te tc : TE} {t u : TT} {x y z v : V} {D : Ends} {tu tz : TS}
theorem el_split {l : List Nat} {c : Nat} (ha : Ev ta σ H (.str (S l))) (hb : Ev tb σ H (.str (S [c]))) (hc : c < 256) (hl : l.length ≤ 90000) : EvL (tM1 rSplit ta tb) σ H ((cut1 c l).map fun p => V.str (S p)) := fun H1 e Q q =>
  ha H1 e _ fun H2 e2 => ⟨⟨_, rfl⟩, hb H2 (e.trans e2) _ fun H3 e3 => ⟨S l, S [c], rfl, rfl, rfl, sz_of (by rw [S_len]; omega), fun p hp => by
    rw [SX.split_S (List.cons_ne_nil _ _) (by simp [hc]), List.map_map]
    exact q p _ (fresh_back (e2.trans e3) hp) ((e2.trans e3).trans (Ex.new hp)) upd_same⟩⟩
theorem ev_count {l : List Nat} {c : Nat} (ha : Ev ta σ H (.str (S l))) (hb : Ev tb σ H (.str (S [c]))) : Ev (tM1 rCount ta tb) σ H (.int (cnt c l)) := fun H1 e Q q =>
  ha H1 e _ fun H2 e2 => ⟨⟨_, rfl⟩, hb H2 (e.trans e2) _ fun H3 e3 => ⟨S l, S [c], rfl, rfl, by
    rw [count_one]
    exact q H3 (e2.trans e3)⟩⟩
theorem ev_starts {l : List Nat} {c : Nat} (ha : Ev ta σ H (.str (S l))) (hb : Ev tb σ H (.str (S [c]))) : Ev (tM1 rStarts ta tb) σ H (.bl (decide (l[0]? = some c))) := fun H1 e Q q =>
  ha H1 e _ fun H2 e2 => ⟨⟨_, rfl⟩, hb H2 (e.trans e2) _ fun H3 e3 => ⟨S l, S [c], rfl, rfl, by
    rw [starts_one]
    exact q H3 (e2.trans e3)⟩⟩
theorem ev_replC {l : List Nat} {s1 s2 : Str} {c d : Nat} (ha : Ev ta σ H (.str (S l))) (h1 : s1 = S [c]) (h2 : s2 = S [d]) (hl : l.length ≤ 100000) : Ev (CwR.tReplC ta s1 s2) σ H (.str (S (l.map fun e => if e = c then d else e))) := fun H1 e Q q => by
  subst h1 h2
  refine ha H1 e _ fun H2 e2 => ⟨S l, rfl, ?_, ?_⟩
  · rw [S_len, S_len]
    show l.length + (l.length + 1) * 1 ≤ 16777216
    omega
  · rw [replace_S]
    exact q H2 e2
theorem s_forS {l : List Nat} {ts : TE} {j : Nat} (h : Ev ts σ H (.str (S l))) (Pv : Nat → L2.St → Hp → Prop) (h0 : ∀ H1, Ex H H1 → Pv 0 σ H1)
    (hs : ∀ (i c : Nat) σ' H', l[i]? = some c → Pv i σ' H' → tu { D with nx := Pv (i + 1), ct := Pv (i + 1), bk := D.nx } (σ'.set j (some (.str (S [c])))) H') (hd : ∀ σ' H', Pv l.length σ' H' → D.nx σ' H') : tFor (iStr ts) (gName j) tu D σ H :=
  h H (Ex.refl H) _ fun H1 e => ⟨S l, rfl, for_it walk_str Pv (h0 H1 e) (fun _ _ _ _ _ => trivial) (fun i x σ' H2 H3 hi p y => by
    obtain ⟨rfl, c, hc, rfl⟩ := y
    have hc' : l[i]? = some c := by simpa [S] using hc
    exact hs i c σ' _ hc' p) (fun σ' H2 p => by
    have hl : (S l).cps.size = l.length := by simp [S]
    rw [hl] at p
    exact hd σ' H2 p)⟩
theorem q_forS {l : List Nat} {ts : TE} {j : Nat} (h : Ev ts σ H (.str (S l))) (Pv : Nat → L2.St → Hp → Prop) (h0 : ∀ H1, Ex H H1 → Pv 0 σ H1)
    (hs : ∀ (i c : Nat) σ' H', l[i]? = some c → Pv i σ' H' → tu { D with nx := Pv (i + 1), ct := Pv (i + 1), bk := tz D } (σ'.set j (some (.str (S [c])))) H') (hd : ∀ σ' H', Pv l.length σ' H' → tz D σ' H') : tSeq (tFor (iStr ts) (gName j) tu) tz D σ H :=
  s_forS (D := { D with nx := tz D }) h Pv h0 hs hd
end
/-! ### an expression behind which a token is out -/
section
variable {X : Cx} {a b e o : Expr} {ta tb te to : TE} {pos apos : Pos}
def PEb (X : Cx) (e : Expr) (t : TE) : Prop := ∀ (pins : List (Addr × Obj)) (s : Shared) (σ : L2.St) (H : Hp) (Q : VK), Inv X pins σ H s → t σ H Q → wpAny (model X.prog X.w) X.A (eval e X.env) (fun v s1 => 1 ≤ s1.toks ∧ EP X pins σ Q v s1) X.xe s
theorem keep_tok {α : Type} {t : Sem α} {Q : α → Shared → Prop} {E : Value → Shared → Prop} {P : Program} {w : World} {A : Around} {s : Shared} (h0 : 1 ≤ s.toks) (h : wpAny (model P w) A t Q E s) : wpAny (model P w) A t (fun a s' => 1 ≤ s'.toks ∧ Q a s') E s :=
  wpAny_mono (PySem.wpAny_toks h) (fun _ _ q => ⟨Nat.le_trans h0 q.1, q.2⟩) fun _ _ z => z.2
theorem peb_str {x : Str} {j : Nat} : PEb X (.Constant (.str x) j pos) (tC (.str x)) := fun _ s _ H _ I h => Calls.Constant_str ⟨by show 1 ≤ s.toks + 1; omega, .str x, H, I.tok _, ⟨_, rfl⟩, h⟩
theorem peb_m1 {id : String} {name : Str} {r : V → List V → Hp → VK → Prop} (slot : Slot "str" name id) (ty : typeOf (.builtin id) = pure (.type "method_descriptor")) (rule : MtR X id r) (ho : PE X o to) (he : PEb X e te)
    (hs : starEach [e] X.env = [(false, eval e X.env)] := by rfl) (hbase : attributeBase o name X.env (eval o X.env) = eval o X.env := by rfl) (hline : (apos.endLine == pos.line) = true := by rfl) :
    PEb X (.Call (.Attribute o name apos) [e] [] pos) (tM1 r to te) := by
  intro pins s σ H Q I h
  refine PySem.Call_method1 hbase hs hline (thn (ho.run pins s σ H _ I h) fun v s1 ⟨x, H1, I1, r1, q1⟩ => ?_)
  obtain ⟨⟨a, rfl⟩, q1⟩ := q1
  obtain ⟨t, rfl⟩ := _root_.id r1
  refine ⟨"str", _, F.plainAttrs_str, slot, ty, typeIs_str _ _ _, (fun _ e => nomatch e), Calls.callWith_builtin rfl (Calls.evalArgs_plain (Calls.spliced_cons ?_))⟩
  exact thn (he pins s1 σ H1 _ I1 q1) fun u s2 ⟨h2, y, H2, I2, r2, q2⟩ => Calls.spliced_nil (keep_tok h2 (rule pins s2 σ H2 _ [y] _ [u] Q I2 r1 (.cons r2 .nil) q2))
theorem peb_cmpR {op : CmpOp} {r : R2} (ho : OpR X (compareOp op) r) (ha : PEb X a ta) (hb : PE X b tb) (hm : behindInMarks op b = false) : PEb X (.Compare a [op] [b] pos) (tOp r ta tb) := by
  intro pins s σ H Q I h
  refine wpAny_Compare1 (thn (ha pins s σ H _ I h) fun v s1 ⟨h1, x, H1, I1, r1, q1⟩ => ?_) hm
  refine thn (keep_tok h1 (hb.run pins s1 σ H1 _ I1 q1)) fun u s2 ⟨h2, y, H2, I2, r2, q2⟩ => ?_
  exact keep_tok h2 (ho pins s2 σ H2 x y v u Q I2 r1 r2 q2)
theorem pe_andB (ha : PEb X a ta) (hb : L2.PET X b tb) : PE X (.BoolOp .And [a, b] pos) (tAndV ta tb) := by
  refine ⟨fun pins s σ H Q I h => ?_⟩
  refine BoolOp_and (thn (ha pins s σ H _ I h) fun v s1 ⟨h1, x, H1, I1, r1, q1⟩ => ?_)
  obtain ⟨c, rfl, q1⟩ := q1
  cases r1
  refine wpAny_truthy_bool ?_
  cases c with
  | true => exact BoolOp_one (hb pins s1 σ H1 Q h1 I1 q1)
  | false => exact ⟨.bl false, H1, I1, rfl, q1⟩
theorem pet_cl {k j : Nat} {x : Str} {sp : Sp} {p : Pos} {es : List Expr} {t : TA} (c : Cl X.prog X.w X.K X.mg X.base k x sp) (hr : Room j X.A) (hk : k ≤ j) (hg : Gl X x) (ha : L2.PAT X (e :: es) t)
    (hdb : (x == ("__debug__" : Str)) = false := by decide) (he : starEach (e :: es) X.env = (false, eval e X.env) :: starEach es X.env := by rfl) (hpl : (backTo pos (starEach es X.env)).any (·.1) = false := by rfl) :
    L2.PET X (.Call (.Name x p) (e :: es) [] pos) (tCall sp [] E0 t) := by
  intro pins s σ H Q h0 I h
  obtain ⟨f, fd, ps, F, hm, kp, b⟩ := c.ex
  refine wpAny_Call_Name_kw (ld_glob I hg hm ?_ hdb)
  refine PySem.W.callWith_K (h₀ := X.base) I.ok.mod.kin kp (thn (ha pos pins s σ H _ h0 I h) fun us s1 ⟨vs, H1, I1, r, q⟩ => ⟨I1.kIn, ?_⟩) he hpl
  exact run_fn F (hr.mono hk) b .nil pass0 I1 r q
end
end Kn
/-! ### methods, classes, dicts with text keys -/
namespace Kn
open PySem PySem.Spec PyProof.Rows L2 Evl SX
structure Mt (P : Program) (w : World) (K : PySem.W.Frag) (mg : Str → Option Value) (base : Heap) (k : Nat) (C : Addr) (m : Str) (sp : Sp) : Prop where
  ex : ∃ (f : Addr) (fd : FuncData) (ps : List Str), Cls K C ∧ Meth K C m f ∧ FnOk P w K mg base CX0 k f fd ps sp ∧ Binds K fd ps []
structure Mkr (P : Program) (w : World) (K : PySem.W.Frag) (mg : Str → Option Value) (base : Heap) (k : Nat) (x : Str) (C : Addr) (sp : Sp) : Prop where
  ex : ∃ (f : Addr) (fd : FuncData) (ps : List Str), Mk K C f ∧ FnOk P w K mg base CX0 k f fd ps sp ∧ mg x = some (.ref C) ∧ Binds K fd ps []
section
variable {X : Cx} {k j : Nat} {C : Addr} {x m : Str} {sp : Sp} {p pos apos : Pos} {e o : Expr} {es : List Expr} {ta : TE} {t : TA}
theorem pe_mt {pl : Sem Bool} (c : Mt X.prog X.w X.K X.mg X.base k C m sp) (hr : Room j X.A) (hk : k ≤ j) (he : PE X o ta) (ha : PA X (e :: es) t)
    (hst : starEach (e :: es) X.env = (false, eval e X.env) :: starEach es X.env := by rfl) (hpl : (backTo pos (starEach es X.env)).any (·.1) = false := by rfl)
    (ht : eval (.Call (.Attribute o m apos) (e :: es) [] pos) X.env = (do
      let ov ← eval o X.env
      standAt apos.atName
      let (f, first) ← holding [ov] (getMethod ov m pl)
      callWith pos f first (backTo pos (starEach (e :: es) X.env)) (backToKw pos (keywordEach [] X.env))) := by rfl) :
    PE X (.Call (.Attribute o m apos) (e :: es) [] pos) (tMeth C m sp [] E0 ta t) := by
  obtain ⟨f, fd, ps, hc, hm, F, b⟩ := c.ex
  exact pe_meth (pl := pl) he hc hm F (hr.mono hk) b .nil pass0 ha hst hpl ht
theorem pe_mt0 {pl : Sem Bool} (c : Mt X.prog X.w X.K X.mg X.base k C m sp) (hr : Room j X.A) (hk : k ≤ j) (he : PE X o ta)
    (ht : eval (.Call (.Attribute o m apos) [] [] pos) X.env = (do
      let ov ← eval o X.env
      standAt apos.atName
      let (f, first) ← holding [ov] (getMethod ov m pl)
      callWith pos f first (backTo pos (starEach [] X.env)) (backToKw pos (keywordEach [] X.env))) := by rfl) :
    PE X (.Call (.Attribute o m apos) [] [] pos) (tMeth C m sp [] E0 ta tNil) := by
  obtain ⟨f, fd, ps, hc, hm, F, b⟩ := c.ex
  exact pe_meth0 (pl := pl) he hc hm F (hr.mono hk) b .nil pass0 ht
theorem pe_mkr0 (c : Mkr X.prog X.w X.K X.mg X.base k x C sp) (hr : Room j X.A) (hk : k + 1 ≤ j) (hg : Gl X x) (hdb : (x == ("__debug__" : Str)) = false := by decide) :
    PE X (.Call (.Name x p) [] [] pos) (tMake C sp [] E0 tNil) := by
  obtain ⟨f, fd, ps, M, F, hm, b⟩ := c.ex
  exact pe_make0 M F (hr.mono hk) hg hm b .nil pass0 hdb
def rStrInt : List V → Hp → VK → Prop := fun xs H Q => ∃ i, xs = [.int i] ∧ i.natAbs.log2 < 1920 ∧ Q (.str (toString i)) H
theorem cr_strInt : CallR X (.type "str") rStrInt := call_str_int
def rSortD (K : PySem.W.Frag) : List V → Hp → VK → Prop := fun xs H Q => ∃ (a : Addr) (kvs : List (Key × V)) (ks : List Str), xs = [.ref a] ∧ Rd H a (.dK kvs) ∧ kvs.map (·.1) = ks.map Sum.inr ∧ ks.length < 64 ∧ ∀ ys p, ys.Perm ks → sortedS ys = true → H p = none → Q (.ref p) (upd H p (.lst (ys.map V.str)))
theorem cr_sortD (h : X.calm = true) : CallR X (.builtin "sorted") (rSortD X.K) := call_sortedD h
def rDictP (K : PySem.W.Frag) : List V → Hp → VK → Prop := fun xs H Q => ∃ (a : Addr) (ps : List Addr) (kvs : List (Key × V)), xs = [.ref a] ∧ SqL K H a (ps.map V.ref) ∧ Paired (fun p kv => SqT K H p [kV kv.1, kv.2]) ps kvs ∧ ∀ p, H p = none → Q (.ref p) (upd H p (.dK (mergeK [] kvs)))
theorem cr_dictP (h : X.calm = true) : CallR X (.type "dict") (rDictP X.K) := call_dictP h
end
section
variable {K : PySem.W.Frag} {σ : L2.St} {H H' : Hp} {ta tb td ty te tc tv : TE} {t u : TT} {x y z v : V} {D : Ends} {tu tw tz : TS} {C p d dx : Addr} {fs : List (Str × V)} {kvs : List (Key × V)} {k : List Nat}
theorem ev_fld {f : Str} (ha : Ev ta σ H (.ref p)) (ho : H p = some (.ins C dx fs)) (hc : Cls K C) (hn : NoAttr K C f) (hl : fs.lookup f = some v) : Ev (tFld K ta f) σ H v := fun H1 e Q q =>
  ha H1 e _ fun H2 e2 => ⟨p, C, dx, fs, v, rfl, (e.trans e2) _ _ ho, hc, hn, hl, q H2 e2⟩
theorem ev_meth {m : Str} {sp : Sp} {E : XK} {t : TA} {vs : List V} (ha : Ev ta σ H (.ref p)) (ho : H p = some (.ins C dx fs)) (hm : fs.lookup m = none) (h : EvA t σ H vs) (hs : SpV sp (.ref p :: vs) H z) : Ev (tMeth C m sp [] E ta t) σ H z := fun H1 e Q q =>
  ha H1 e _ fun H2 e2 => ⟨p, dx, fs, rfl, (e.trans e2) _ _ ho, hm, h H2 (e.trans e2) _ fun H3 e3 => by
    rw [List.append_nil]
    exact hs H3 ((e.trans e2).trans e3) Q (fun H4 e4 => q H4 ((e2.trans e3).trans e4)) E⟩
theorem ev_dget (h1 : Ev td σ H (.ref d)) (h2 : Ev ty σ H (.str (S k))) (hd : H d = some (.dK kvs)) (hv : valV kvs (Sum.inr (S k)) = some v) : Ev (tDGet td ty) σ H v := fun H1 e Q q =>
  h1 H1 e _ fun H2 e2 => h2 H2 (e.trans e2) _ fun H3 e3 => ⟨d, v, rfl, by
    have g := DGet.k (k := (Sum.inr (S k) : Key)) (((e.trans e2).trans e3) _ _ hd)
    rw [hv] at g
    exact g, q H3 (e2.trans e3)⟩
theorem ev_dget1 (h1 : Ev td σ H (.ref d)) (h2 : Ev ty σ H (.str (S k))) (hd : H d = some (.dK kvs)) : Ev (tDGet1 td ty) σ H ((valV kvs (Sum.inr (S k))).getD .non) := fun H1 e Q q =>
  h1 H1 e _ fun H2 e2 => ⟨d, rfl, .inl ⟨kvs, .inl ((e.trans e2) _ _ hd)⟩, h2 H2 (e.trans e2) _ fun H3 e3 => ⟨_, DGet.k (k := (Sum.inr (S k) : Key)) (((e.trans e2).trans e3) _ _ hd), q H3 (e2.trans e3)⟩⟩
theorem et_din (h2 : Ev ty σ H (.str (S k))) (h1 : Ev td σ H (.ref d)) (hd : H d = some (.dK kvs)) : EvT (tB (tDIn ty td)) σ H (valV kvs (Sum.inr (S k))).isSome := fun H1 e Q q =>
  h2 H1 e _ fun H2 e2 => h1 H2 (e.trans e2) _ fun H3 e3 => ⟨d, _, rfl, DGet.k (k := (Sum.inr (S k) : Key)) (((e.trans e2).trans e3) _ _ hd), _, rfl, q H3 (e2.trans e3)⟩
/-- d[k] = v -/
theorem s_dput (hv : Ev tv σ H v) (h1 : ∀ H1, Ex H H1 → Ev td σ H1 (.ref d)) (h2 : ∀ H1, Ex H H1 → Ev ty σ H1 (.str (S k))) (hd : H d = some (.dK kvs)) (hl : kvs.length < 100000) (q : ∀ H1, Ex H H1 → D.nx σ (upd H1 d (.dK (putK kvs (Sum.inr (S k)) v)))) : sDPut td ty tv D σ H :=
  hv H (Ex.refl H) _ fun H1 e1 => h1 H1 e1 H1 (Ex.refl H1) _ fun H2 e2 => h2 H2 (e1.trans e2) H2 (Ex.refl H2) _ fun H3 e3 => ⟨d, _, rfl, DPut.k (k := (Sum.inr (S k) : Key)) (((e1.trans e2).trans e3) _ _ hd) (sz_lt hl), q H3 ((e1.trans e2).trans e3)⟩
/-- d[k] = (a, ..), a new tuple -/
theorem s_dputU {xs : List V} (hv : EvU tv σ H xs) (h1 : ∀ H1, Ex H H1 → Ev td σ H1 (.ref d)) (h2 : ∀ H1, Ex H H1 → Ev ty σ H1 (.str (S k))) (hd : H d = some (.dK kvs)) (hl : kvs.length < 100000) (q : ∀ r H1, H r = none → Ex H H1 → H1 r = some (.tup xs) → D.nx σ (upd H1 d (.dK (putK kvs (Sum.inr (S k)) (.ref r))))) : sDPut td ty tv D σ H :=
  hv H (Ex.refl H) _ fun r H1 nr e1 hr => h1 H1 e1 H1 (Ex.refl H1) _ fun H2 e2 => h2 H2 (e1.trans e2) H2 (Ex.refl H2) _ fun H3 e3 => ⟨d, _, rfl, DPut.k (k := (Sum.inr (S k) : Key)) (((e1.trans e2).trans e3) _ _ hd) (sz_lt hl), q r H3 nr ((e1.trans e2).trans e3) (e3 _ _ (e2 _ _ hr))⟩
theorem et_isN (ha : Ev ta σ H x) : EvT (tTest (tOp rIsN ta (tC .non))) σ H (decide (x = .non)) := et_test (ev_op ha ev_c fun H1 _ Q q => ⟨rfl, q H1 (Ex.refl H1)⟩)
theorem et_notN (ha : Ev ta σ H x) : EvT (tTest (tOp rNotN ta (tC .non))) σ H (!decide (x = .non)) := et_test (ev_op ha ev_c fun H1 _ Q q => ⟨rfl, q H1 (Ex.refl H1)⟩)
theorem rv_ix0 {q : Addr} {xs : List V} {i : Nat} (h : SqT K H q xs) (hi : xs[i]? = some v) : RV (rIxT K) (.ref q) (.int (i : Int)) H v := rv_ixT h (atI_nat hi)
theorem ev_strInt {n : Nat} (ha : Ev ta σ H (.int (n : Int))) (hn : n < 1000) : Ev (tCB rStrInt (tCons ta tNil)) σ H (.str (S (TL.numL n))) := fun H1 e Q q =>
  ha H1 e _ fun H2 e2 => ⟨(n : Int), rfl, by
    rw [Int.natAbs_natCast]
    have : n.log2 < 10 := by
      by_cases h0 : n = 0
      · subst h0
        decide
      · exact (Nat.log2_lt h0).mpr (by omega)
    omega, by
    have z := num_S n
    rw [← z] at q
    exact q H2 e2⟩
end
end Kn
/-! ### lists of pairs with text keys: what a dict holds -/
namespace Kn
open PySem PySem.Spec PyProof.Rows L2 Evl SX
section
variable {α : Type}
def look (es : List (List Nat × α)) (k : List Nat) : Option α := (es.find? fun x => decide (x.1 = k)).map (·.2)
def put (es : List (List Nat × α)) (k : List Nat) (e : α) : List (List Nat × α) := if (es.any fun x => decide (x.1 = k)) = true then es.map (fun x => if x.1 = k then (x.1, e) else x) else es ++ [(k, e)]
theorem look_cons (x : List Nat × α) (r : List (List Nat × α)) (k : List Nat) : look (x :: r) k = if x.1 = k then some x.2 else look r k := by
  unfold look
  rw [List.find?_cons]
  by_cases h : x.1 = k
  · rw [decide_eq_true h, if_pos h]
    rfl
  · rw [decide_eq_false h, if_neg h]
theorem look_any (k : List Nat) : ∀ es : List (List Nat × α), (es.any fun x => decide (x.1 = k)) = (look es k).isSome
  | [] => rfl
  | x :: r => by
    rw [List.any_cons, look_cons, look_any k r]
    by_cases h : x.1 = k
    · rw [decide_eq_true h, if_pos h]
      rfl
    · rw [decide_eq_false h, if_neg h]
      rfl
theorem look_map (k j : List Nat) (e : α) : ∀ es : List (List Nat × α), look (es.map fun x => if x.1 = k then (x.1, e) else x) j = (look es j).map fun y => if j = k then e else y
  | [] => rfl
  | x :: r => by
    rw [List.map_cons, look_cons, look_cons, look_map k j e r]
    by_cases h : x.1 = k
    · rw [if_pos h]
      by_cases h2 : x.1 = j
      · rw [if_pos h2, if_pos h2, Option.map_some, if_pos (h2.symm.trans h)]
      · rw [if_neg h2, if_neg h2]
    · rw [if_neg h]
      by_cases h2 : x.1 = j
      · rw [if_pos h2, if_pos h2, Option.map_some, if_neg (fun z => h (h2.trans z))]
      · rw [if_neg h2, if_neg h2]
theorem look_snoc (k j : List Nat) (e : α) : ∀ es : List (List Nat × α), look es k = none → look (es ++ [(k, e)]) j = if j = k then some e else look es j
  | [], _ => by
    show look [(k, e)] j = _
    rw [look_cons]
    by_cases h : k = j
    · rw [if_pos h, if_pos h.symm]
    · rw [if_neg h, if_neg (fun z => h z.symm)]
  | x :: r, hn => by
    rw [look_cons] at hn
    by_cases h : x.1 = k
    · rw [if_pos h] at hn
      cases hn
    · rw [if_neg h] at hn
      rw [List.cons_append, look_cons, look_cons, look_snoc k j e r hn]
      by_cases h2 : x.1 = j
      · rw [if_pos h2, if_pos h2, if_neg (fun z => h (h2.trans z))]
      · rw [if_neg h2, if_neg h2]
theorem look_put (es : List (List Nat × α)) (k j : List Nat) (e : α) : look (put es k e) j = if j = k then some e else look es j := by
  unfold put
  rw [look_any]
  cases h : look es k with
  | none => exact look_snoc k j e es h
  | some y =>
    show look (es.map _) j = _
    rw [look_map]
    by_cases hj : j = k
    · subst hj
      rw [h, if_pos rfl, Option.map_some, if_pos rfl]
    · rw [if_neg hj]
      cases look es j with
      | none => rfl
      | some z => rw [Option.map_some, if_neg hj]
theorem put_len (es : List (List Nat × α)) (k : List Nat) (e : α) : (put es k e).length ≤ es.length + 1 := by
  unfold put
  split
  · rw [List.length_map]
    omega
  · rw [List.length_append]
    exact Nat.le_refl _
theorem look_mem {es : List (List Nat × α)} {k : List Nat} {e : α} (h : look es k = some e) : (k, e) ∈ es := by
  unfold look at h
  cases hf : es.find? fun x => decide (x.1 = k) with
  | none => rw [hf] at h; cases h
  | some x =>
    rw [hf] at h
    have h1 : x.1 = k := of_decide_eq_true (List.find?_some (p := fun x : List Nat × α => decide (x.1 = k)) hf)
    have h2 : x.2 = e := Option.some.inj h
    rw [← h1, ← h2]
    exact List.mem_of_find?_eq_some hf
theorem mem_look {es : List (List Nat × α)} {x : List Nat × α} (h : x ∈ es) : (look es x.1).isSome = true := by
  rw [← look_any, List.any_eq_true]
  exact ⟨x, h, decide_eq_true rfl⟩
theorem look_put_mem {es : List (List Nat × α)} {k : List Nat} {e : α} {x : List Nat × α} (h : x ∈ put es k e) : x ∈ es ∨ x.2 = e := by
  unfold put at h
  split at h
  · obtain ⟨y, hy, e2⟩ := List.mem_map.mp h
    by_cases h3 : y.1 = k
    · rw [if_pos h3] at e2
      exact .inr (by rw [← e2])
    · rw [if_neg h3] at e2
      exact .inl (by rw [← e2]; exact hy)
  · rcases List.mem_append.mp h with z | z
    · exact .inl z
    · exact .inr (by rw [List.mem_singleton.mp z])
end
/-- how pairs lie as a dict's: R tells which value stands for which thing -/
def Lies {α : Type} (R : α → V → Prop) (es : List (List Nat × α)) (kvs : List (Key × V)) : Prop := Paired (fun x (kv : Key × V) => kv.1 = Sum.inr (S x.1) ∧ R x.2 kv.2) es kvs
section
variable {α : Type} {R R' : α → V → Prop}
theorem key_eq {a b : List Nat} : ((Sum.inr (S a) : Key) = Sum.inr (S b)) ↔ a = b := ⟨fun h => S_inj (Sum.inr.inj h), fun h => by rw [h]⟩
theorem Lies.len {es : List (List Nat × α)} {kvs : List (Key × V)} (h : Lies R es kvs) : es.length = kvs.length := Paired.length h
theorem Lies.mono {es : List (List Nat × α)} {kvs : List (Key × V)} (h : Lies R es kvs) (f : ∀ a v, R a v → R' a v) : Lies R' es kvs := Paired.mapP h fun _ _ z => ⟨z.1, f _ _ z.2⟩
theorem Lies.look : ∀ {es : List (List Nat × α)} {kvs : List (Key × V)}, Lies R es kvs → ∀ k, (Kn.look es k = none ∧ valV kvs (Sum.inr (S k)) = none) ∨ ∃ e v, Kn.look es k = some e ∧ valV kvs (Sum.inr (S k)) = some v ∧ R e v
  | [], _, .nil, _ => .inl ⟨rfl, rfl⟩
  | x :: r, kv :: kvs, .cons h t, k => by
    rw [look_cons]
    by_cases hk : x.1 = k
    · rw [if_pos hk]
      refine .inr ⟨x.2, kv.2, rfl, valV_pos (h.1.trans (key_eq.mpr hk)), h.2⟩
    · rw [if_neg hk, valV_neg (fun z => hk (key_eq.mp (h.1.symm.trans z)))]
      exact Lies.look t k
theorem Lies.any {es : List (List Nat × α)} {kvs : List (Key × V)} (h : Lies R es kvs) (k : List Nat) : (kvs.any fun kv => decide (kv.1 = Sum.inr (S k))) = es.any fun x => decide (x.1 = k) := by
  rw [valV_any, look_any]
  rcases h.look k with ⟨a, b⟩ | ⟨e, v, a, b, _⟩
  · rw [a, b]
    rfl
  · rw [a, b]
    rfl
theorem Lies.mapped {k : List Nat} {e : α} {v : V} (hv : R e v) : ∀ {es : List (List Nat × α)} {kvs : List (Key × V)}, Lies R es kvs → Lies R (es.map fun x => if x.1 = k then (x.1, e) else x) (kvs.map fun kv => if kv.1 = (Sum.inr (S k) : Key) then (kv.1, v) else kv)
  | [], _, .nil => .nil
  | x :: r, kv :: kvs, .cons h t => by
    refine .cons ?_ (Lies.mapped hv t)
    by_cases hk : x.1 = k
    · dsimp only
      rw [if_pos hk, if_pos (h.1.trans (key_eq.mpr hk))]
      exact ⟨h.1, hv⟩
    · dsimp only
      rw [if_neg hk, if_neg (fun z => hk (key_eq.mp (h.1.symm.trans z)))]
      exact h
theorem Lies.snoc {k : List Nat} {e : α} {v : V} (hv : R e v) : ∀ {es : List (List Nat × α)} {kvs : List (Key × V)}, Lies R es kvs → Lies R (es ++ [(k, e)]) (kvs ++ [(Sum.inr (S k), v)])
  | [], _, .nil => .cons ⟨rfl, hv⟩ .nil
  | _ :: _, _ :: _, .cons h t => .cons h (Lies.snoc hv t)
theorem Lies.put {es : List (List Nat × α)} {kvs : List (Key × V)} {k : List Nat} {e : α} {v : V} (h : Lies R es kvs) (hv : R e v) : Lies R (Kn.put es k e) (putK kvs (Sum.inr (S k)) v) := by
  unfold Kn.put putK
  rw [h.any k]
  split
  · exact h.mapped hv
  · exact h.snoc hv
theorem Lies.keys : ∀ {es : List (List Nat × α)} {kvs : List (Key × V)}, Lies R es kvs → kvs.map (·.1) = (es.map fun x => S x.1).map Sum.inr
  | [], _, .nil => rfl
  | _ :: _, _ :: _, .cons h t => by
    rw [List.map_cons, List.map_cons, List.map_cons, h.1, Lies.keys t]
theorem Lies.get : ∀ {es : List (List Nat × α)} {kvs : List (Key × V)}, Lies R es kvs → ∀ (i : Nat) kv, kvs[i]? = some kv → ∃ x, es[i]? = some x ∧ kv.1 = Sum.inr (S x.1) ∧ R x.2 kv.2
  | [], _, .nil, _, _, h => by simp at h
  | x :: _, kv :: _, .cons h t, 0, kv', e => by
    cases Option.some.inj e
    exact ⟨x, rfl, h.1, h.2⟩
  | _ :: _, _ :: _, .cons h t, i + 1, kv', e => by
    obtain ⟨y, h1, h2⟩ := Lies.get t i kv' (by simpa using e)
    exact ⟨y, by simpa using h1, h2⟩
end
section
variable {K : PySem.W.Frag} {σ : L2.St} {H H' : Hp} {ta tb td ty te tc tv : TE} {t u : TT} {x y z v : V} {D : Ends} {tu tw tz : TS} {C p d dx : Addr} {fs : List (Str × V)} {kvs : List (Key × V)} {k : List Nat}
/-- y = [x for x in d.values() if t] -/
theorem s_lcVals {i j : Nat} {vs : List Nat} (f : Nat → Bool) (h1 : ∀ H1 : Hp, (∀ a o, a ≠ d → H a = some o → H1 a = some o) → Ev td σ H1 (.ref d)) (hd : H d = some (.dK kvs)) (hz : kvs.length ≤ 40000) (hw : ∀ x, wipe ((wipe σ vs).set j (some x)) vs = wipe σ vs)
    (ht : ∀ (i : Nat) (kv : Key × V) (H1 : Hp), (∀ a o, a ≠ d → H a = some o → H1 a = some o) → kvs[i]? = some kv → EvT t ((wipe σ vs).set j (some kv.2)) H1 (f i)) (he : ∀ (x : V) H1, Ev te ((wipe σ vs).set j (some x)) H1 x)
    (k : ∀ p H1, H p = none → Ex H H1 → H1 p = some (.lst (given kvs.length f fun i => (kvs[i]?.map (·.2)).getD .non)) → D.nx (σ.set i (some (.ref p))) H1) : tLock (tAsg (tLc (iVals td) (gName j) t te vs) (gName i)) D σ H := by
  refine ⟨d, .dK kvs, hd, trivial, fun od => ?_⟩
  have base : ∀ H1, Ex (upd H d (.frz od (.dK kvs))) H1 → ∀ a o, a ≠ d → H a = some o → H1 a = some o := fun H1 e a o ha h => e a o (by rw [upd_ne ha]; exact h)
  refine h1 _ (base _ (Ex.refl _)) _ (Ex.refl _) _ fun H1 e1 => ⟨d, od, kvs, rfl, e1 _ _ upd_same, fun Dl hD => ?_⟩
  refine lc_it walk_values (Cw H1 f (fun i => (kvs[i]?.map (·.2)).getD .non) Dl) ⟨hD, Ex.new hD, upd_same⟩ (fun i H2 _ q => q.2.1 _ _ (e1 _ _ upd_same)) (fun i x H2 H3 hi q y => ?_) (fun H2 q => ?_)
  · obtain ⟨rfl, ky, hy⟩ := y
    refine ⟨hw x, cw_turn q (by omega) (ht i (ky, x) H1 (base H1 e1) hy) (fun _ => ?_)⟩
    rw [hy]
    exact he x H1
  · have dn : H1 d = some (.frz od (.dK kvs)) := e1 _ _ upd_same
    have hd2 : H2 d = some (.frz od (.dK kvs)) := q.2.1 _ _ dn
    refine ⟨hd2, k Dl _ ?_ (fun a o h => ?_) ?_⟩
    · cases h : H Dl with
      | none => rfl
      | some o =>
        have ne : Dl ≠ d := fun z => by rw [z] at hD; rw [hD] at dn; cases dn
        have := e1 _ _ (by rw [upd_ne ne]; exact h)
        rw [hD] at this
        cases this
    · by_cases ha : a = d
      · rw [ha] at h ⊢
        rw [upd_same, ← hd, h]
      · rw [upd_ne ha]
        exact q.2.1 _ _ (base H1 e1 a o ha h)
    · have ne : Dl ≠ d := fun z => by rw [z] at hD; rw [hD] at dn; cases dn
      rw [upd_ne ne]
      exact q.2.2
/-- [(a, ..) for x in d if t]: new tuples -/
theorem ev_lcKeysT {j : Nat} {vs : List Nat} (f : Nat → Bool) (xs : Nat → List V) (h1 : ∀ H1, Ev td σ H1 (.ref d)) (hd : H d = some (.dK kvs)) (hz : kvs.length ≤ 40000) (hw : ∀ x, wipe ((wipe σ vs).set j (some x)) vs = wipe σ vs)
    (ht : ∀ (i : Nat) (kv : Key × V) (H1 : Hp) , kvs[i]? = some kv → EvT t ((wipe σ vs).set j (some (kV kv.1))) H1 (f i))
    (he : ∀ (i : Nat) (kv : Key × V) (H1 : Hp) (od : Obj), H1 d = some (.frz od (.dK kvs)) → kvs[i]? = some kv → f i = true → EvU te ((wipe σ vs).set j (some (kV kv.1))) H1 (xs i)) :
    ∀ H0, Ex H H0 → ∀ Q : VK, (∀ p H2 (ps : List Addr), H0 p = none → Ex H0 H2 → H2 p = some (.lst (ps.map V.ref)) → Paired (fun q v => H2 q = some (.tup v)) ps (((List.range kvs.length).filter f).map xs) → Q (.ref p) H2) → tLockE (tLc (iKeys td) (gName j) t te vs) σ H0 Q := by
  intro H0 e0 Q k
  have hd0 := e0 _ _ hd
  refine ⟨d, .dK kvs, hd0, trivial, fun od => ?_⟩
  refine h1 _ _ (Ex.refl _) _ fun H1 e1 => ⟨d, od, rfl, .inl ⟨kvs, e1 _ _ upd_same, fun Dl hD => ?_⟩⟩
  have dn : H1 d = some (.frz od (.dK kvs)) := e1 _ _ upd_same
  have ne : Dl ≠ d := fun z => by rw [z] at hD; rw [hD] at dn; cases dn
  refine lc_it walk_keys (fun i H' => Ex H1 H' ∧ ∃ ps : List Addr, H' Dl = some (.lst (ps.map V.ref)) ∧ ps.length ≤ i ∧ Paired (fun q v => H' q = some (.tup v)) ps (((List.range i).filter f).map xs)) ⟨Ex.new hD, [], upd_same, Nat.le_refl _, .nil⟩ (fun i H2 _ q => q.1 _ _ dn) (fun i x H2 H3 hi q y => ?_) (fun H2 q => ?_)
  · obtain ⟨rfl, ky, vv, hy, rfl⟩ := y
    obtain ⟨e2, ps, hl, hlen, hp⟩ := q
    refine ⟨hw _, ht i (ky, vv) _ hy _ (Ex.refl _) _ fun H3 e3 => ?_⟩
    cases hf : f i with
    | false =>
      show Ex H1 H3 ∧ _
      refine ⟨e2.trans e3, ps, e3 _ _ hl, by omega, ?_⟩
      rw [List.range_succ, List.filter_append, List.filter_cons, hf]
      show Paired _ ps (List.map xs (_ ++ []))
      rw [List.append_nil]
      exact Paired.mapP hp fun _ _ z => e3 _ _ z
    | true =>
      show te _ H3 fun y H4 => ∃ acc, _
      refine he i (ky, vv) H3 od (e3 _ _ (e2 _ _ dn)) hy hf H3 (Ex.refl _) _ fun r H4 nr e4 hr => ?_
      have hl4 : H4 Dl = some (.lst (ps.map V.ref)) := e4 _ _ (e3 _ _ hl)
      refine ⟨ps.map V.ref, hl4, sz_lt (by rw [List.length_map]; omega), Ex.mut ((e2.trans e3).trans e4) hD, ps ++ [r], ?_, ?_, ?_⟩
      · rw [List.map_append]
        exact upd_same
      · rw [List.length_append]
        show ps.length + 1 ≤ i + 1
        omega
      · have up : ∀ q w, H4 q = some (.tup w) → (upd H4 Dl (.lst (ps.map V.ref ++ [.ref r]))) q = some (.tup w) := fun q w hq => by
          rw [upd_ne (ne_of hq hl4 (by intro z; cases z))]
          exact hq
        rw [List.range_succ, List.filter_append, List.filter_cons, hf, List.map_append]
        have app : ∀ {F : Addr → List V → Prop} {as : List Addr} {bs : List (List V)} {a : Addr} {b : List V}, Paired F as bs → F a b → Paired F (as ++ [a]) (bs ++ [b]) := by
          intro F as bs a b hh hab
          induction hh with
          | nil => exact .cons hab .nil
          | cons h1 _ ih => exact .cons h1 ih
        exact app (Paired.mapP hp fun _ _ z => up _ _ (e4 _ _ (e3 _ _ z))) (up _ _ hr)
  · obtain ⟨e2, ps, hl, _, hp⟩ := q
    refine ⟨e2 _ _ dn, k Dl _ ps ?_ (fun a o h => ?_) ?_ (Paired.mapP hp fun q w z => ?_)⟩
    · cases h : H0 Dl with
      | none => rfl
      | some o =>
        have := e1 _ _ (by rw [upd_ne ne]; exact h)
        rw [hD] at this
        cases this
    · by_cases ha : a = d
      · rw [ha] at h ⊢
        rw [upd_same, ← hd0, h]
      · rw [upd_ne ha]
        exact e2 _ _ (e1 _ _ (by rw [upd_ne ha]; exact h))
    · rw [upd_ne ne]
      exact hl
    · have hdz : H2 d = some (.frz od (.dK kvs)) := e2 _ _ dn
      rw [upd_ne (ne_of z hdz (by intro w; cases w))]
      exact z
end
end Kn
namespace Kn
open PySem PySem.Spec PyProof.Rows L2 Evl SX
section
variable {K : PySem.W.Frag} {σ : L2.St} {H H' : Hp} {ta tb td ty te tc tv : TE} {t u : TT} {x y z v : V} {D : Ends} {tu tw tz : TS} {C p d dx : Addr} {fs : List (Str × V)} {kvs : List (Key × V)} {k : List Nat}
theorem q_dnew {i : Nat} (k : ∀ p, H p = none → tz D (σ.set i (some (.ref p))) (upd H p (.dK []))) : tSeq (tAsg tDNewK (gName i)) tz D σ H := k
theorem s_meth {m : Str} {sp : Sp} {E : XK} {tA : TA} {vs : List V} (ha : Ev ta σ H (.ref p)) (ho : H p = some (.ins C dx fs)) (hm : fs.lookup m = none) (h : EvA tA σ H vs) (k : ∀ H1, Ex H H1 → sp (.ref p :: vs) H1 (fun _ H2 => D.nx σ H2) E) : tDrop (tMeth C m sp [] E ta tA) D σ H :=
  ha H (Ex.refl H) _ fun H1 e1 => ⟨p, dx, fs, rfl, e1 _ _ ho, hm, h H1 e1 _ fun H2 e2 => by
    rw [List.append_nil]
    exact k H2 (e1.trans e2)⟩
theorem q_meth {m : Str} {sp : Sp} {E : XK} {tA : TA} {vs : List V} (ha : Ev ta σ H (.ref p)) (ho : H p = some (.ins C dx fs)) (hm : fs.lookup m = none) (h : EvA tA σ H vs) (k : ∀ H1, Ex H H1 → sp (.ref p :: vs) H1 (fun _ H2 => tz D σ H2) E) : tSeq (tDrop (tMeth C m sp [] E ta tA)) tz D σ H :=
  s_meth (D := { D with nx := tz D }) ha ho hm h k
/-- for k in sorted(d) -/
theorem q_forSD {ks : List (List Nat)} {j : Nat} (hv : Ev td σ H (.ref d)) (hd : H d = some (.dK kvs)) (hk : kvs.map (·.1) = (ks.map S).map Sum.inr) (hn : ks.length < 64) (Pv : List (List Nat) → Addr → Nat → L2.St → Hp → Prop)
    (h0 : ∀ ys p H1, ys.Perm ks → H p = none → Ex H H1 → H1 p = some (.lst (ys.map fun l => V.str (S l))) → Pv ys p 0 σ H1)
    (hl : ∀ ys p i σ' H', Pv ys p i σ' H' → SqL K H' p (ys.map fun l => V.str (S l)))
    (hs : ∀ ys p i l σ' H', ys.Perm ks → ys[i]? = some l → Pv ys p i σ' H' → tu { D with nx := Pv ys p (i + 1), ct := Pv ys p (i + 1), bk := tz D } (σ'.set j (some (.str (S l)))) H')
    (hend : ∀ ys p σ' H', ys.Perm ks → Pv ys p ys.length σ' H' → tz D σ' H') : tSeq (tFor (iList K (tCB (rSortD K) (tCons td tNil))) (gName j) tu) tz D σ H := by
  refine hv H (Ex.refl H) _ fun H1 e1 => ⟨d, kvs, ks.map S, rfl, .inl (e1 _ _ hd), hk, by rw [List.length_map]; exact hn, fun ys p hp _ hnew => ?_⟩
  have e : ys = (ys.map TL.tl).map S := by
    rw [List.map_map]
    exact (List.map_id' ys).symm.trans (List.map_congr_left fun x _ => (S_tl x).symm)
  have hperm : (ys.map TL.tl).Perm ks := by
    have h := hp.map TL.tl
    rw [map_S_tl] at h
    exact h
  have e2 : ys.map V.str = (ys.map TL.tl).map fun l => V.str (S l) := by
    rw [List.map_map]
    exact List.map_congr_left fun x _ => congrArg V.str (S_tl x).symm
  refine ⟨p, rfl, ⟨_, sq_of upd_same⟩, ?_⟩
  rw [e2]
  refine for_list (xs := (ys.map TL.tl).map fun l => V.str (S l)) (Pv (ys.map TL.tl) p) (h0 _ p _ hperm (fresh_back e1 hnew) (e1.trans (Ex.new hnew)) upd_same) (fun i σ' H' _ q => hl _ p i σ' H' q) (fun i x σ' H' hx q => ?_) (fun σ' H' q => ?_)
  · rw [List.getElem?_map] at hx
    cases h : (ys.map TL.tl)[i]? with
    | none => rw [h] at hx; cases hx
    | some l =>
      rw [h] at hx
      cases Option.some.inj hx
      exact hs _ p i l σ' H' hperm h q
  · rw [List.length_map] at q
    exact hend _ p σ' H' hperm q
end
/-! ### a dict made of pairs -/
def puts {α : Type} (acc L : List (List Nat × α)) : List (List Nat × α) := L.foldl (fun a x => put a x.1 x.2) acc
theorem look_puts {α : Type} {g : List Nat → Option α} : ∀ (L acc : List (List Nat × α)), (∀ x ∈ L, g x.1 = some x.2) → ∀ k, look (puts acc L) k = if k ∈ L.map (·.1) then g k else look acc k
  | [], acc, _, k => (if_neg (by simp)).symm
  | x :: r, acc, h, k => by
    show look (puts (put acc x.1 x.2) r) k = _
    rw [look_puts r _ (fun y hy => h y (List.mem_cons_of_mem _ hy)) k, look_put]
    by_cases h1 : k ∈ r.map (·.1)
    · rw [if_pos h1, if_pos (by rw [List.map_cons]; exact List.mem_cons_of_mem _ h1)]
    · rw [if_neg h1]
      by_cases h2 : k = x.1
      · rw [if_pos h2, if_pos (by rw [List.map_cons, h2]; exact List.mem_cons_self), h2, h x List.mem_cons_self]
      · rw [if_neg h2, if_neg (by rw [List.map_cons, List.mem_cons]; exact fun z => z.elim h2 h1)]
theorem puts_len {α : Type} : ∀ (L acc : List (List Nat × α)), (puts acc L).length ≤ acc.length + L.length
  | [], acc => Nat.le_refl _
  | x :: r, acc => by
    have h1 := puts_len r (put acc x.1 x.2)
    have h2 := put_len acc x.1 x.2
    show (puts (put acc x.1 x.2) r).length ≤ _
    rw [List.length_cons]
    omega
theorem Lies.puts {α : Type} {R : α → V → Prop} : ∀ {L : List (List Nat × α)} {kvs : List (Key × V)} {acc : List (List Nat × α)} {akvs : List (Key × V)}, Lies R L kvs → Lies R acc akvs → Lies R (Kn.puts acc L) (mergeK akvs kvs)
  | [], _, _, _, .nil, h => h
  | x :: r, kv :: kvs, acc, akvs, .cons h t, ha => by
    have h2 := ha.put (k := x.1) h.2
    rw [← h.1] at h2
    show Lies R (Kn.puts (Kn.put acc x.1 x.2) r) (mergeK (putK akvs kv.1 kv.2) kvs)
    exact Lies.puts (L := r) (kvs := kvs) t h2
theorem put_mem {α : Type} {es : List (List Nat × α)} {k : List Nat} {e : α} {x : List Nat × α} (h : x ∈ put es k e) : x ∈ es ∨ x = (k, e) := by
  unfold put at h
  split at h
  · obtain ⟨y, hy, e2⟩ := List.mem_map.mp h
    by_cases h3 : y.1 = k
    · rw [if_pos h3] at e2
      exact .inr (by rw [← e2, h3])
    · rw [if_neg h3] at e2
      exact .inl (by rw [← e2]; exact hy)
  · rcases List.mem_append.mp h with z | z
    · exact .inl z
    · exact .inr (List.mem_singleton.mp z)
theorem upd_none {H : Hp} {a b : Addr} {o : HO} (h : upd H a o b = none) : H b = none := by
  by_cases e : b = a
  · subst e
    rw [upd_same] at h
    cases h
  · rw [upd_ne e] at h
    exact h
theorem Paired.maps {α β γ : Type} {F : α → β → Prop} {f : γ → α} {g : γ → β} : ∀ (L : List γ), (∀ i ∈ L, F (f i) (g i)) → Paired F (L.map f) (L.map g)
  | [], _ => .nil
  | x :: r, h => .cons (h x List.mem_cons_self) (Paired.maps r fun i hi => h i (List.mem_cons_of_mem _ hi))
theorem ev_dgetF {σ : L2.St} {H : Hp} {td ty : TE} {d : Addr} {k : List Nat} {kvs : List (Key × V)} {v : V} {od : Obj} (h1 : Ev td σ H (.ref d)) (h2 : Ev ty σ H (.str (S k))) (hd : H d = some (.frz od (.dK kvs))) (hv : valV kvs (Sum.inr (S k)) = some v) : Ev (tDGet td ty) σ H v := fun H1 e Q q =>
  h1 H1 e _ fun H2 e2 => h2 H2 (e.trans e2) _ fun H3 e3 => ⟨d, v, rfl, .inl ⟨kvs, Sum.inr (S k), .inr ⟨od, ((e.trans e2).trans e3) _ _ hd⟩, rfl, hv.symm⟩, q H3 (e2.trans e3)⟩
end Kn

/-! ### own exceptions over an own base -/
namespace Kn
open PySem PySem.Spec PyProof.Rows L2 Evl SX
/-- what the base's __init__ asks of the own base class at B -/
structure BaseC (K : PySem.W.Frag) (B : Addr) : Prop where
  sp : PySem.W.specialIn K (.ref B) "__getattribute__" = some (some (.builtin "type.__getattribute__"))
  rd : PySem.W.readsIn K B (.type "type") = true
  fi : PySem.W.findCls K (.ref B) (.type "type") "__init__" = some (.val (.builtin "ValueError.__init__"))
theorem pe_beinit {X : Cx} {b : Str} {B : Addr} {e : Expr} {es : List Expr} {ta : TA} {p1 p2 pos : Pos} {pl : Sem Bool} (T : BaseC X.K B) (hg : Gl X b) (hm : X.mg b = some (.ref B)) (ha : PA X (e :: es) ta)
    (hdb : (b == ("__debug__" : Str)) = false := by decide)
    (hc : eval (.Call (.Attribute (.Name b p1) "__init__" p2) (e :: es) [] pos) X.env = (do
      let ov ← eval (.Name b p1) X.env
      standAt p2.atName
      let (f, first) ← holding [ov] (getMethod ov "__init__" pl)
      callWith pos f first (backTo pos (starEach (e :: es) X.env)) (backToKw pos (keywordEach [] X.env))) := by rfl)
    (he : starEach (e :: es) X.env = (false, eval e X.env) :: starEach es X.env := by rfl) (hpl : (backTo pos (starEach es X.env)).any (·.1) = false := by rfl) :
    PE X (.Call (.Attribute (.Name b p1) "__init__" p2) (e :: es) [] pos) (tVeI X.K ta) := by
  refine ⟨fun pins s σ H Q I h => ?_⟩
  refine PySem.W.methodCall_KW (ld_glob I hg hm ?_ hdb) hc
  refine PySem.W.method_cls I.kIn T.sp (PySem.W.cls_value I.kIn T.rd T.fi (by decide +kernel) ?_)
  show wpAny _ _ (callWith pos (Value.builtin "ValueError.__init__") [] (backTo pos (starEach (e :: es) X.env)) []) _ _ _
  refine PyProof.Rows.callWith_method1 (thn (ha.run pos pins _ σ H _ (I.tok _) h) fun us s1 ⟨vs, H1, I1, r1, a, C, ws, ev, hl, T, ea, q⟩ => ?_) he hpl
  subst ev
  cases r1 with
  | @cons _ u0 _ ur ra rw' =>
    obtain rfl : u0 = Value.ref a := ra
    have hlen : ur.length ≤ sizeLine := by
      rw [← Paired.length rw', sizeLine_eq]
      omega
    exact oinit_ok T I1 ea hlen fun s' J => ⟨.non, H1, J, rfl, q⟩
/-- isinstance(e, c), e the exception at a that the suite holds, with a dict -/
def rIsX (K : PySem.W.Frag) (a : Addr) (cls : Value) (d : Option Addr) : List V → Hp → VK → Prop := fun xs H Q => ∃ (D dd : Addr) (fs : List (Str × V)) (c : V) (cv : Value) (b : Bool),
  cls = .ref D ∧ d = some dd ∧ ExcC K D ∧ H dd = some (.xd fs) ∧ xs = [.ref a, c] ∧ (∀ u, RelV c u → u = cv) ∧ PySem.W.kitOne K (.ref D) cv = some b ∧ Q (.bl b) H
theorem cr_isX {X : Cx} {a : Addr} {oe : Obj} {cls : Value} {d : Option Addr} {pn : List (Addr × Obj)} (hz : Zc cls d oe) (hf : ∃ vs, oe.data = .fields vs) : CallR (X.suite a ((a, oe) :: pn)) (.builtin "isinstance") (rIsX X.K a cls d) := by
  intro pins s σ H xs us Q I r h
  obtain ⟨D, dd, fs, c, cv, b, rfl, rfl, C, hd, rfl, hcv, e, q⟩ := h
  obtain ⟨u0, u1, rfl, r0, r1⟩ := vals2 r
  obtain rfl : u0 = Value.ref a := r0
  obtain rfl := hcv _ r1
  obtain ⟨hget, _⟩ := I.pin (a, oe) (List.mem_append_left _ List.mem_cons_self)
  obtain ⟨vs, hv⟩ := hf
  obtain ⟨mA, hns, _⟩ := (I.hok dd _ hd : ObjOk X.prog X.w H s.heap dd (.xd fs))
  obtain ⟨od, ho, _⟩ := lookIn_ns hns
  have J : PySem.W.InstAt s.heap a oe D (some od) := ⟨hget, hz.1, by unfold PySem.W.notCls; rw [hv] <;> rfl, by rw [hz.2]; exact ho⟩
  obtain ⟨cd, hc, _⟩ := PySem.W.any_some C.hd
  exact PySem.W.kia_one (PySem.W.kitx_exc (by rw [hc]; rfl) C.hg C.hk C.hs C.ha C.hn C.ht C.hm) I.kIn J e (fun z => nomatch z) fun tk => ⟨.bl b, H, I.kept (t' := tk) fun _ _ z => z, rfl, q⟩
end Kn
/-! ### int(t, 2) -/
namespace Kn.Bi
open PySem PySem.Spec PyProof.Rows L2 PySem.NumText PySem.Calls
def IsBin (c : Nat) : Prop := c = 48 ∨ c = 49
theorem IsBin.hex {c : Nat} (h : IsBin c) : Hx.IsHex c := .inl (by unfold IsBin at h; omega)
theorem IsBin.lt {c : Nat} (h : IsBin c) : Hx.hv c < 2 := by
  rcases h with rfl | rfl <;> decide
def binNum (l : List Nat) : Nat := l.foldl (fun a c => a * 2 + Hx.hv c) 0
theorem step_bin {ds : Array Nat} {b : Bool} {c : Nat} (h : IsBin c) : PySem.NumText.step 2 (ds, b) c = some (ds.push (Hx.hv c), true) := by
  unfold PySem.NumText.step
  rw [if_neg (by rw [beq_iff_eq]; exact (Hx.hex_rng h.hex).2.2), Hx.digit_hex h.hex]
  exact if_pos h.lt
theorem fold_bin : ∀ (cs : List Nat) (ds : Array Nat), (∀ c ∈ cs, IsBin c) → cs.foldlM (PySem.NumText.step 2) (ds, true) = some (cs.foldl (fun acc c => acc.push (Hx.hv c)) ds, true)
  | [], _, _ => rfl
  | c :: cs, ds, h => by
    rw [List.foldlM_cons, step_bin (h c List.mem_cons_self)]
    exact fold_bin cs _ fun d hd => h d (List.mem_cons_of_mem _ hd)
theorem digits_bin {cs : List Nat} (h : ∀ c ∈ cs, IsBin c) (hne : cs ≠ []) : digits? 2 cs = some (cs.foldl (fun acc c => acc.push (Hx.hv c)) #[]) := by
  cases cs with
  | nil => exact absurd rfl hne
  | cons c cs =>
    unfold digits?
    rw [List.foldlM_cons, step_bin (h c List.mem_cons_self)]
    show (cs.foldlM (PySem.NumText.step 2) ((#[] : Array Nat).push (Hx.hv c), true)).bind _ = _
    rw [fold_bin cs _ fun d hd => h d (List.mem_cons_of_mem _ hd)]
    rfl
theorem push_bin : ∀ (cs : List Nat) (ds : Array Nat), (cs.foldl (fun acc c => acc.push (Hx.hv c)) ds).foldl (fun acc d => acc * 2 + d) 0 = cs.foldl (fun a c => a * 2 + Hx.hv c) (ds.foldl (fun acc d => acc * 2 + d) 0)
  | [], _ => rfl
  | c :: cs, ds => by
    rw [List.foldl_cons, push_bin cs, List.foldl_cons]
    congr 1
    simp
theorem based_bin : ∀ {cs : List Nat}, (∀ c ∈ cs, IsBin c) → based 2 cs = (2, false, cs)
  | [], _ => rfl
  | [a], h => by rcases h a List.mem_cons_self with rfl | rfl <;> rfl
  | a :: c :: r, h => by
    rcases h a List.mem_cons_self with rfl | rfl <;> rcases h c (List.mem_cons_of_mem _ List.mem_cons_self) with rfl | rfl <;> rfl
theorem read_bin {cs : List Nat} (h : ∀ c ∈ cs, IsBin c) (hne : cs ≠ []) : (int_private% "readNumeral") 0 2 cs = (int_private% "Numeral.value") ((binNum cs : Nat) : Int) := by
  have hx : ∀ c ∈ cs, Hx.IsHex c := fun c hc => (h c hc).hex
  have hr : ∀ c ∈ cs.reverse, Hx.IsHex c := fun c hc => hx c (List.mem_reverse.mp hc)
  refine (readNumeral_eq 0 2 cs).trans ?_
  rw [Hx.dropB hx, Hx.signH hx]
  show judge 0 false (based 2 cs).1 (based 2 cs).2.1 (digits? (based 2 cs).1 (((based 2 cs).2.2.reverse.dropWhile blank).reverse)) = _
  rw [based_bin h]
  show judge 0 false 2 false (digits? 2 ((cs.reverse.dropWhile blank).reverse)) = _
  rw [Hx.dropB hr, List.reverse_reverse, digits_bin h hne]
  show (int_private% "Numeral.value") (((cs.foldl (fun acc c => acc.push (Hx.hv c)) (#[] : Array Nat)).foldl (fun acc d => acc * 2 + d) 0 : Nat) : Int) = _
  have z : (#[] : Array Nat).foldl (fun acc d => acc * 2 + d) 0 = 0 := by first | rfl | simp
  rw [push_bin, z] <;> rfl
theorem gives_bin {x : PySem.Str} {u t : Tok} (hl : x.length ≤ 640) (h : ∀ c ∈ x.cps.toList, IsBin c) (hne : x.cps.toList ≠ []) :
    Gives (Builtin.«int.__new__» ⟨[.type "int", .str x u, .int 2 t], []⟩) (.int ((binNum x.cps.toList : Nat) : Int)) :=
  .of_wp fun M A E s Q hQ => by
    obtain ⟨hp, g, d, tk, os⟩ := s
    have f1 := F.conv_sub_int
    have f2 := F.madeHere_int
    have f6 : typeOf (.str x u) = pure (.type "str") := rfl
    obtain ⟨e1, e2⟩ := Hx.seen_hex fun c hc => (h c hc).hex
    have hs : (numSeenOf x).length ≤ 640 := by
      rw [e2, Array.length_toList]
      exact hl
    have hr : (int_private% "readNumeral") 0 2 (numSeenOf x) = (int_private% "Numeral.value") ((binNum x.cps.toList : Nat) : Int) := by
      rw [e2]
      exact read_bin h hne
    have ha : ((numSeenOf x).length == (numTextOf x).length) = true := by
      rw [e1, e2]
      exact beq_self_eq_true _
    have hk := Hx.Hid.mk (And.intro hs (And.intro hr ha))
    clear hs hr ha e1 e2 hl hne h
    repeat (any_goals (first
      | assumption
      | ((with_reducible show wpAny _ _ ((int_private% "intFromText") _ _ _) _ _ _); refine Hx.wp_textB hk.out.1 hk.out.2.1 hk.out.2.2 ?_)
      | wp_step))
    all_goals first | exact ⟨_, rfl, hQ⟩ | skip
/-- int(t, 2) -/
def rIntBin : List V → Hp → VK → Prop := fun xs H Q => ∃ l : List Nat, xs = [.str (SX.S l), .int 2] ∧ l ≠ [] ∧ l.length ≤ 640 ∧ (∀ c ∈ l, IsBin c) ∧ Q (.int ((binNum l : Nat) : Int)) H
theorem cr_intBin {X : Cx} : CallR X (.type "int") rIntBin := by
  intro pins s σ H xs us Q I r h
  obtain ⟨l, rfl, hne, hl, hx, q⟩ := h
  obtain ⟨u, w', rfl, r1, r2⟩ := vals2 r
  obtain ⟨t1, rfl⟩ := r1
  obtain ⟨t2, rfl⟩ := r2
  exact callType_new F.called_int F.newNe_int (Hx.typeCall_int_2 _ _) (Hx.newCall_int_2 _ _) (fun obj => F.initArgs_range_2 obj _ _) F.entry_int_new (gives_bin (x := SX.S l) (by rw [SX.S_len]; exact hl) hx hne).meets
    (show (Made.int ((binNum l : Nat) : Int)).post _ s from ⟨rfl, ⟨.int ((binNum l : Nat) : Int), H, I.tok _, ⟨_, rfl⟩, q⟩⟩)
end Kn.Bi
/-! ### f'{n:b}' -/
namespace Kn.Bi
open PySem PySem.Spec PyProof.Rows L2 PySem.NumText PySem.Calls PySem.W Builtin.Float
def digB (n : Nat) : List Nat := (Nat.toDigits 2 n).map Char.toNat
def fB : FormatSpec := { align := 62, type := some 98 }
theorem parse_b : parseFormatSpec (Str.ofString "b").cps.toList "int" 62 = .ok fB := by kernel_rfl
theorem digB_ne (n : Nat) : digB n ≠ [] := fun z => by
  have h1 := tDigits_len_ge 2 n
  have h2 : (digB n).length = (Nat.toDigits 2 n).length := List.length_map _
  rw [z, List.length_nil] at h2
  omega
theorem field_eq (ds : List Nat) (h : ds ≠ []) : intField' fB false [] ds [] 4 = SX.S ds := by
  unfold intField' fB
  cases ds with
  | nil => exact absurd rfl h
  | cons c r =>
    simp
    omega
theorem field_b {a : Int} (h0 : 0 ≤ a) : intField' fB (decide (a < 0)) [] (digB a.natAbs) [] 4 = SX.S (digB a.natAbs) := by
  rw [decide_eq_false (by omega)]
  exact field_eq _ (digB_ne _)
theorem meets_b {a : Int} {t u : Tok} (h0 : 0 ≤ a) (hl : (digB a.natAbs).length ≤ 100000) : Meets (Builtin.«int.__format__» ⟨[.int a t, .str "b" u], []⟩) (fun _ R s => ∀ t' k, R (.ok (.ret (.str (SX.S (digB a.natAbs)) t'))) { s with toks := k }) := by
  apply KPc.meets_of
  intro _ _ _ _ _ _ hQ
  unfold Builtin.«int.__format__»
  refine wpAny_bind (wpAny_of_eq (a := (_, _)) rfl ?_)
  refine wpAny_bind (wpAny_of_eq (a := _) rfl ?_)
  kxf_if
  refine wpAny_bind (wpAny_typeNameOf (T := "str") (typeIs_str _ _ _) (by decide) fun _ => ?_)
  refine wpAny_bind (wpAny_of_eq (a := some _) rfl ?_)
  kxf_if
  kxf_if
  refine wpAny_bind (wpAny_typeNameOfCut_int ?_)
  rw [parse_b]
  dsimp only
  rw [if_pos (by decide +kernel)]
  show wpAny _ _ (retStr (intField' fB (decide (a < 0)) [] (digB a.natAbs) [] 4)) _ _ _
  exact KXf.ret_text (field_b h0) (by rw [field_b h0, SX.S_len]; exact Evl.sz_of hl) hQ
/-- {x:b} -/
def tFmtB (te : TE) : TE := fun σ H Q => te σ H fun x H1 => ∃ i : Int, x = .int i ∧ 0 ≤ i ∧ (digB i.natAbs).length ≤ 100000 ∧ Q (.str (SX.S (digB i.natAbs))) H1
theorem pe_fmtB {X : Cx} {e sp : Expr} {te : TE} {pos : Pos} (he : PE X e te) (hs : PE X sp (tC (.str "b"))) : PE X (.FormattedValue e (-1) (some sp) pos) (tFmtB te) := by
  refine ⟨fun pins s σ H Q I h => ?_⟩
  refine wpAny_FormattedValue_spec (thn (he.run pins s σ H _ I h) fun v s1 ⟨x, H1, I1, r1, i, ex, h0, hl, q⟩ => ?_)
  subst ex
  obtain ⟨t, rfl⟩ := r1
  refine thn (hs.run pins s1 σ H1 (fun v H2 => v = .str "b" ∧ H2 = H1) I1 ⟨rfl, rfl⟩) fun r s2 ⟨y, H2, I2, r2, ey, eH⟩ => ?_
  subst ey
  subst eH
  obtain ⟨t2, rfl⟩ := r2
  exact ⟨_, t2, rfl, KXf.field_int rfl (by decide +kernel) (by decide +kernel) (fun u => meets_b h0 hl) fun t' k => ⟨.str (SX.S (digB i.natAbs)), H2, I2.tok _, ⟨_, rfl⟩, q⟩⟩
end Kn.Bi
/-! ### comprehensions over ranges -/
namespace Kn
open PySem PySem.Spec PyProof.Rows L2 Evl SX
section
variable {K : PySem.W.Frag} {σ : L2.St} {H H' : Hp} {ta tb te tc : TE} {t u : TT} {x y z v : V} {D : Ends} {tu tw tz : TS}
theorem el_lcR2 {ta : TA} {j : Nat} {vs : List Nat} {lo hi : Int} (f : Nat → Bool) (v : Nat → V) (h : EvA ta σ H [.int lo, .int hi]) (hb : 0 ≤ lo ∧ lo ≤ hi ∧ hi ≤ 40000) (hw : ∀ x, wipe ((wipe σ vs).set j (some x)) vs = wipe σ vs)
    (ht : ∀ (i : Nat) H1, Ex H H1 → lo + (i : Int) < hi → EvT t ((wipe σ vs).set j (some (.int (lo + (i : Int))))) H1 (f i)) (he : ∀ (i : Nat) H1, Ex H H1 → lo + (i : Int) < hi → f i = true → Ev te ((wipe σ vs).set j (some (.int (lo + (i : Int))))) H1 (v i)) :
    EvL (tLc (iRng2 ta) (gName j) t te vs) σ H (given (hi - lo).toNat f v) := fun H0 e Q q => h H0 e _ fun H1 e1 => ⟨lo, hi, rfl, ⟨by omega, by omega, by omega, by omega⟩, fun Dl hD =>
  lc_it walk_range (Cw H1 f v Dl) ⟨hD, Ex.new hD, upd_same⟩ (fun _ _ _ _ => trivial) (fun i x H2 H3 hi p y => by
    obtain ⟨rfl, rfl⟩ := y
    exact ⟨hw _, cw_turn p (by omega) (ht i H1 (e.trans e1) (by omega)) (fun hf => he i H1 (e.trans e1) (by omega) hf)⟩) (fun H' p => q Dl H' (fresh_back e1 p.1) (e1.trans p.2.1) p.2.2)⟩
theorem range7 (c : Nat) (hc : c ≤ 5000) : RgC 1 (((1 + 7 * c : Nat) : Int)) 7 c := by
  have e : Builtin.Range.rangeSize 1 (((1 + 7 * c : Nat) : Int)) 7 = (c : Int) := by
    unfold Builtin.Range.rangeSize
    rw [if_pos (by decide)]
    split <;> omega
  have fit : ∀ i : Int, 0 ≤ i → i ≤ 100000 → Builtin.Range.rangeFitsLong i = true := fun i h1 h2 => by
    unfold Builtin.Range.rangeFitsLong
    rw [decide_eq_true (by omega), decide_eq_true (by omega)]
    rfl
  refine ⟨by decide, by decide, ?_, e⟩
  unfold Builtin.Range.small
  rw [e, fit 1 (by decide) (by decide), fit _ (by omega) (by omega), fit 7 (by decide) (by decide), fit (c : Int) (by omega) (by omega), if_pos (by decide), fit _ (by omega) (by omega), Bool.or_true]
  rfl
theorem el_lcR7 {ta : TA} {j : Nat} {vs : List Nat} {c : Nat} (v : Nat → V) (h : EvA ta σ H [.int 1, .int (((1 + 7 * c : Nat) : Int)), .int 7]) (hc : c ≤ 5000) (hw : ∀ x, wipe ((wipe σ vs).set j (some x)) vs = wipe σ vs)
    (he : ∀ (i : Nat) H1, Ex H H1 → i < c → Ev te ((wipe σ vs).set j (some (.int (1 + (i : Nat) * 7)))) H1 (v i)) :
    EvL (tLc (iRng3 ta) (gName j) tYes te vs) σ H (given c (fun _ => true) v) := fun H0 e Q q => h H0 e _ fun H1 e1 => ⟨1, _, 7, c, rfl, range7 c hc, fun Dl hD =>
  lc_it walk_rangeC (Cw H1 (fun _ => true) v Dl) ⟨hD, Ex.new hD, upd_same⟩ (fun _ _ _ _ => trivial) (fun i x H2 H3 hi p y => by
    obtain ⟨rfl, rfl⟩ := y
    exact ⟨hw _, cw_turn p (by omega) et_yes (fun hf => he i H1 (e.trans e1) hi)⟩) (fun H' p => q Dl H' (fresh_back e1 p.1) (e1.trans p.2.1) p.2.2)⟩
theorem ev_intBin {l : List Nat} (h : EvA (tCons ta (tCons tb tNil)) σ H [.str (S l), .int 2]) (hne : l ≠ []) (hl : l.length ≤ 640) (hb : ∀ c ∈ l, Bi.IsBin c) : Ev (tCB Bi.rIntBin (tCons ta (tCons tb tNil))) σ H (.int ((Bi.binNum l : Nat) : Int)) := fun H1 e Q q =>
  h H1 e _ fun H2 e2 => ⟨l, rfl, hne, hl, hb, q H2 e2⟩
theorem ev_fmtB {n : Nat} (h : Ev te σ H (.int (n : Int))) (hl : (Bi.digB n).length ≤ 100000) : Ev (Bi.tFmtB te) σ H (.str (S (Bi.digB n))) := fun H1 e Q q =>
  h H1 e _ fun H2 e2 => ⟨(n : Int), rfl, by omega, hl, q H2 e2⟩
end
end Kn

/-! ### f'{n:07b}' -/
namespace Kn.Bi
open PySem PySem.Spec PyProof.Rows L2 PySem.NumText PySem.Calls PySem.W Builtin.Float
def f7 : FormatSpec := { fill := 48, align := 61, width := some 7, type := some 98 }
theorem parse_7 : parseFormatSpec (Str.ofString "07b").cps.toList "int" 62 = .ok f7 := by kernel_rfl
def pad7 (d : Nat) : List Nat := [48 + d / 64 % 2, 48 + d / 32 % 2, 48 + d / 16 % 2, 48 + d / 8 % 2, 48 + d / 4 % 2, 48 + d / 2 % 2, 48 + d % 2]
theorem field_7 : ∀ d : Nat, d < 128 → intField' f7 false [] (digB d) [] 4 = SX.S (pad7 d) := by decide +kernel
theorem meets_7 {d : Nat} {t u : Tok} (hd : d < 128) : Meets (Builtin.«int.__format__» ⟨[.int (d : Int) t, .str "07b" u], []⟩) (fun _ R s => ∀ t' k, R (.ok (.ret (.str (SX.S (pad7 d)) t'))) { s with toks := k }) := by
  apply KPc.meets_of
  intro _ _ _ _ _ _ hQ
  unfold Builtin.«int.__format__»
  refine wpAny_bind (wpAny_of_eq (a := (_, _)) rfl ?_)
  refine wpAny_bind (wpAny_of_eq (a := _) rfl ?_)
  kxf_if
  refine wpAny_bind (wpAny_typeNameOf (T := "str") (typeIs_str _ _ _) (by decide) fun _ => ?_)
  refine wpAny_bind (wpAny_of_eq (a := some _) rfl ?_)
  kxf_if
  kxf_if
  refine wpAny_bind (wpAny_typeNameOfCut_int ?_)
  rw [parse_7]
  dsimp only
  rw [if_pos (by decide +kernel)]
  show wpAny _ _ (retStr (intField' f7 (decide ((d : Int) < 0)) [] (digB (d : Int).natAbs) [] 4)) _ _ _
  have e : intField' f7 (decide ((d : Int) < 0)) [] (digB (d : Int).natAbs) [] 4 = SX.S (pad7 d) := by
    rw [decide_eq_false (by omega), Int.natAbs_natCast]
    exact field_7 d hd
  exact KXf.ret_text e (by rw [e, SX.S_len]; exact Evl.sz_of (by show 7 ≤ 100000; decide)) hQ
/-- {x:07b} of a small number -/
def tFmt7 (te : TE) : TE := fun σ H Q => te σ H fun x H1 => ∃ d : Nat, x = .int (d : Int) ∧ d < 128 ∧ Q (.str (SX.S (pad7 d))) H1
theorem pe_fmt7 {X : Cx} {e sp : Expr} {te : TE} {pos : Pos} (he : PE X e te) (hs : PE X sp (tC (.str "07b"))) : PE X (.FormattedValue e (-1) (some sp) pos) (tFmt7 te) := by
  refine ⟨fun pins s σ H Q I h => ?_⟩
  refine wpAny_FormattedValue_spec (thn (he.run pins s σ H _ I h) fun v s1 ⟨x, H1, I1, r1, d, ex, hd, q⟩ => ?_)
  subst ex
  obtain ⟨t, rfl⟩ := r1
  refine thn (hs.run pins s1 σ H1 (fun v H2 => v = .str "07b" ∧ H2 = H1) I1 ⟨rfl, rfl⟩) fun r s2 ⟨y, H2, I2, r2, ey, eH⟩ => ?_
  subst ey
  subst eH
  obtain ⟨t2, rfl⟩ := r2
  exact ⟨_, t2, rfl, KXf.field_int rfl (by decide +kernel) (by decide +kernel) (fun u => meets_7 hd) fun t' k => ⟨.str (SX.S (pad7 d)), H2, I2.tok _, ⟨_, rfl⟩, q⟩⟩
end Kn.Bi
/-! ### int(t, 2) of long texts -/
namespace Kn.Bi
open PySem PySem.Spec PyProof.Rows L2 PySem.NumText PySem.Calls
theorem wp_textL {M : Model} {A : Around} {E : Value → Shared → Prop} {s : Shared} {Q : Value → Shared → Prop} {v : Value} {text : List Nat} {B : Nat} {n : Int}
    (hK : PySem.W.Looks M s.heap (nsGet cStatics "sys.int_max_str_digits") none) (hs : ¬ (text.takeWhile (· != 0)).length ≤ 640)
    (hr : (int_private% "readNumeral") 4300 B (text.takeWhile (· != 0)) = (int_private% "Numeral.value") n)
    (ha : ((text.takeWhile (· != 0)).length == text.length) = true) (h : Q (.int n s.toks) { s with toks := s.toks + 1 }) :
    wpAny M A ((int_private% "intFromText") v text B) Q E s := by
  obtain ⟨hp, g, d, tk, os⟩ := s
  have hm : ∀ {Q : Nat → Shared → Prop} {E : Value → Shared → Prop}, Q 4300 ⟨hp, g, d, tk, os⟩ → wpAny M A Builtin.intMaxStrDigits Q E ⟨hp, g, d, tk, os⟩ := fun q => by
    unfold Builtin.intMaxStrDigits
    exact wpAny_bind (hK.here (wpAny_pure q))
  repeat (any_goals (first
    | assumption
    | (with_reducible refine wpAny_ite_false (decide_eq_false hs) ?_)
    | (with_reducible refine hm ?_)
    | (with_reducible refine wpAny_ite_true (decide_eq_true ha) ?_)
    | wp_step))
  all_goals (try rw [hr])
  all_goals (try dsimp only)
  repeat (any_goals (first
    | assumption
    | (with_reducible refine wpAny_ite_true (decide_eq_true ha) ?_)
    | wp_step))
theorem read_binL {cs : List Nat} (h : ∀ c ∈ cs, IsBin c) (hne : cs ≠ []) : (int_private% "readNumeral") 4300 2 cs = (int_private% "Numeral.value") ((binNum cs : Nat) : Int) := by
  have hx : ∀ c ∈ cs, Hx.IsHex c := fun c hc => (h c hc).hex
  have hr : ∀ c ∈ cs.reverse, Hx.IsHex c := fun c hc => hx c (List.mem_reverse.mp hc)
  refine (readNumeral_eq 4300 2 cs).trans ?_
  rw [Hx.dropB hx, Hx.signH hx]
  show judge 4300 false (based 2 cs).1 (based 2 cs).2.1 (digits? (based 2 cs).1 (((based 2 cs).2.2.reverse.dropWhile blank).reverse)) = _
  rw [based_bin h]
  show judge 4300 false 2 false (digits? 2 ((cs.reverse.dropWhile blank).reverse)) = _
  rw [Hx.dropB hr, List.reverse_reverse, digits_bin h hne]
  show (int_private% "Numeral.value") (((cs.foldl (fun acc c => acc.push (Hx.hv c)) (#[] : Array Nat)).foldl (fun acc d => acc * 2 + d) 0 : Nat) : Int) = _
  have z : (#[] : Array Nat).foldl (fun acc d => acc * 2 + d) 0 = 0 := by first | rfl | simp
  rw [push_bin, z] <;> rfl
def NoDig (h : Heap) : Prop := ∀ M : Model, PySem.W.Looks M h (nsGet cStatics "sys.int_max_str_digits") none
theorem meets_binL {x : PySem.Str} {u t : Tok} (hl : ¬ x.length ≤ 640) (h : ∀ c ∈ x.cps.toList, IsBin c) (hne : x.cps.toList ≠ []) :
    Meets (Builtin.«int.__new__» ⟨[.type "int", .str x u, .int 2 t], []⟩) (fun _ R s => NoDig s.heap ∧ R (.ok (.ret (.int ((binNum x.cps.toList : Nat) : Int) s.toks))) { s with toks := s.toks + 1 }) :=
  .of_wp fun prog w A R s ⟨hd, hQ⟩ => by
    obtain ⟨hp, g, d, tk, os⟩ := s
    have f1 := F.conv_sub_int
    have f2 := F.madeHere_int
    have f6 : typeOf (.str x u) = pure (.type "str") := rfl
    obtain ⟨e1, e2⟩ := Hx.seen_hex fun c hc => (h c hc).hex
    have hs : ¬ (numSeenOf x).length ≤ 640 := by
      rw [e2, Array.length_toList]
      exact hl
    have hr : (int_private% "readNumeral") 4300 2 (numSeenOf x) = (int_private% "Numeral.value") ((binNum x.cps.toList : Nat) : Int) := by
      rw [e2]
      exact read_binL h hne
    have ha : ((numSeenOf x).length == (numTextOf x).length) = true := by
      rw [e1, e2]
      exact beq_self_eq_true _
    have hk := Hx.Hid.mk (And.intro (hd (model prog w)) (And.intro hs (And.intro hr ha)))
    clear hs hr ha e1 e2 hl hne h
    repeat (any_goals (first
      | assumption
      | ((with_reducible show wpAny _ _ ((int_private% "intFromText") _ _ _) _ _ _); refine wp_textL hk.out.1 hk.out.2.1 hk.out.2.2.1 hk.out.2.2.2 ?_)
      | wp_step))
    all_goals first | exact ⟨_, rfl, hQ⟩ | skip
/-- int(t, 2) of any text -/
def rIntBinL : List V → Hp → VK → Prop := fun xs H Q => ∃ l : List Nat, xs = [.str (SX.S l), .int 2] ∧ l ≠ [] ∧ (∀ c ∈ l, IsBin c) ∧ Q (.int ((binNum l : Nat) : Int)) H
theorem cr_intBinL {X : Cx} (hd : PySem.W.nsIn X.K cStatics "sys.int_max_str_digits" = some none) : CallR X (.type "int") rIntBinL := by
  intro pins s σ H xs us Q I r h
  obtain ⟨l, rfl, hne, hx, q⟩ := h
  by_cases hl : l.length ≤ 640
  · exact cr_intBin pins s σ H _ us Q I r ⟨l, rfl, hne, hl, hx, q⟩
  · obtain ⟨u, w', rfl, r1, r2⟩ := vals2 r
    obtain ⟨t1, rfl⟩ := r1
    obtain ⟨t2, rfl⟩ := r2
    have nd : NoDig s.heap := fun M => PySem.W.looks_nsIn I.kIn hd
    exact callType_new F.called_int F.newNe_int (Hx.typeCall_int_2 _ _) (Hx.newCall_int_2 _ _) (fun obj => F.initArgs_range_2 obj _ _) F.entry_int_new (meets_binL (x := SX.S l) (by rw [SX.S_len]; exact hl) hx hne)
      ⟨nd, rfl, ⟨.int ((binNum l : Nat) : Int), H, I.tok _, ⟨_, rfl⟩, q⟩⟩
end Kn.Bi

/-! ### text * int -/
namespace Kn
open PySem PySem.Spec PyProof.Rows L2 Evl SX
def rMulS : R2 := fun x y H Q => ∃ (z : List Nat) (n : Nat), x = .str (S z) ∧ y = .int (n : Int) ∧ n ≤ 100000 ∧ z.length ≤ 100 ∧ Q (.str (S (List.replicate n z).flatten)) H
theorem rep_arr (z : List Nat) : ∀ (n : Nat) (a : Array Nat), ((List.replicate n z.toArray).foldl (· ++ ·) a).toList = a.toList ++ (List.replicate n z).flatten
  | 0, a => by simp
  | n + 1, a => by
    rw [List.replicate_succ, List.foldl_cons, rep_arr z n, List.replicate_succ, List.flatten_cons]
    simp
theorem op_mulS {X : Cx} : OpR X (binaryOp .Mult) rMulS := by
  intro pins s σ H x y v u Q I rx ry h
  obtain ⟨z, n, rfl, rfl, hn, hz, q⟩ := h
  obtain ⟨t, rfl⟩ := rx
  obtain ⟨t2, rfl⟩ := ry
  have hb : z.length * n ≤ 100 * 100000 := Nat.mul_le_mul hz hn
  have e : ((n : Int)).toNat = n := by omega
  have hl : decide ((S z).length * ((n : Int)).toNat > sizeLine) = false := by
    rw [e, S_len]
    exact decide_eq_false (Nat.not_lt.mpr (Nat.le_trans hb (by decide)))
  have p63 : (2 ^ 63 : Int) = 9223372036854775808 := by decide
  have g1 : decide ((n : Int) < -(2 ^ 63 : Int)) = false := decide_eq_false (by rw [p63]; omega)
  have g2 : decide ((n : Int) ≥ (2 ^ 63 : Int)) = false := decide_eq_false (by rw [p63]; omega)
  refine PySem.P.mul_str (by rw [g1, g2]; rfl) (fun h1 h2 => ?_) (fun _ _ => hl) ?_
  · rw [S_len]
    have h3 : ((z.length * n : Nat) : Int) ≤ ((10000000 : Nat) : Int) := Int.ofNat_le.mpr hb
    rw [Int.natCast_mul] at h3
    have h4 := (Int.le_ediv_iff_mul_le (show (0 : Int) < n by omega)).mpr (show ((z.length : Int)) * (n : Int) ≤ 2 ^ 63 - 1 by rw [p63]; omega)
    omega
  · have key : ∀ y : Str, y = S (List.replicate n z).flatten → ∀ t' k, EP X pins σ Q (.str y t') { s with toks := k } := fun y ey t' k => by
      subst ey
      exact ⟨.str (S (List.replicate n z).flatten), H, I.tok k, ⟨t', rfl⟩, q⟩
    split
    · next h1 =>
      have : n = 0 := by omega
      subst this
      exact ⟨by decide, key _ rfl _ _⟩
    · next h1 =>
      split
      · next h2 =>
        refine key _ ?_ _ s.toks
        rw [Bool.or_eq_true, beq_iff_eq, beq_iff_eq, S_len] at h2
        rcases h2 with h2 | h2
        · have : n = 1 := by omega
          subst this
          simp
        · have : z = [] := List.eq_nil_of_length_eq_zero h2
          subst this
          simp
      · rw [e]
        have ez : (⟨(List.replicate n (S z).cps).foldl (· ++ ·) #[]⟩ : Str) = S (List.replicate n z).flatten := by
          refine TL.ext_tl ?_
          show ((List.replicate n z.toArray).foldl (· ++ ·) #[]).toList = (List.replicate n z).flatten
          rw [rep_arr z n #[]]
          rfl
        refine ⟨?_, key _ ez _ _⟩
        rw [ez, S_len]
        simp
        exact Nat.le_trans (by rw [Nat.mul_comm]; exact hb) (by decide)
end Kn
/-! ### several except clauses, each with the same name -/
namespace Kn
open PySem PySem.Spec PyProof.Rows L2
def wManyAs (K : PySem.W.Frag) (i : Nat) (Wout : WX) (D : Ends) : List (Value × (Addr → Value → Option Addr → TS)) → WX
  | [] => Wout
  | (c, ts) :: r => fun cls d σ H => ∃ b, PySem.W.exmOne K cls c = some b ∧
      (b = true → ∀ a, H a = none → ts a cls d { nx := fun σ' H' => D.nx (σ'.set i none) H', rt := D.rt, bk := fun σ' H' => D.bk (σ'.set i none) H', ct := fun σ' H' => D.ct (σ'.set i none) H' } (σ.set i (some (.ref a))) H) ∧
      (b = false → wManyAs K i Wout D r cls d σ H)
inductive HdsAs (X : Cx) (n : Str) : List ExceptHandler → List (Value × (Addr → Value → Option Addr → TS)) → Prop
  | nil : HdsAs X n [] []
  | cons {x : Str} {c : Value} {ts : Addr → Value → Option Addr → TS} {b₀ : Stmt} {suite : List Stmt} {np pos' : Pos} {hds : List ExceptHandler} {l : List (Value × (Addr → Value → Option Addr → TS))} (hc : Names X x c)
      (hsu : ∀ (a : Addr) (oe : Obj) (cls : Value) (d : Option Addr) (pn : List (Addr × Obj)), Zc cls d oe → (∃ vs, oe.data = .fields vs) → PSs (X.suite a ((a, oe) :: pn)) (b₀ :: suite) (ts a cls d)) (r : HdsAs X n hds l) :
      HdsAs X n (.ExceptHandler (some (.Name x np)) (some n) (b₀ :: suite) pos' :: hds) ((c, ts) :: l)
section
variable {X : Cx} {body : List Stmt} {h₀ : ExceptHandler} {hds : List ExceptHandler} {l : List (Value × (Addr → Value → Option Addr → TS))} {pos : Pos} {tb : WX → TS} {Wout : WX} {n : Str} {i : Nat}
theorem ps_try_manyAs (hs : X.stack = X.env :: X.outer) (hf : X.env.frame = some X.env.locals) (hN : X.N.Nodup) (hi : X.N[i]? = some n) (hln : X.env.kindOf n = some .local) (tk : Takes X Wout)
    (hb : ∀ (W : WX) (pn : List (Addr × Obj)) (xe : Value → Shared → Prop), Takes (X.tr pn xe) W → PassesOwn (model X.prog X.w) X.A X.env xe → PSs (X.tr pn xe) body (tb W))
    (hh : HdsAs X n (h₀ :: hds) l) : PS X (.Try body (h₀ :: hds) [] [] pos) (fun D σ H => tb (wManyAs X.K i Wout D l) D σ H) := by
  refine ⟨fun pins s σ H D I h => ?_⟩
  have ok := I.ok
  have hfr : X.A.frames = some (X.env :: X.outer) := by rw [ok.frames, hs]
  have hloc : Loc X.env.scope n := .inl hln
  refine wpAny_Try_except ?_
  refine wpAny_mono ((hb (wManyAs X.K i Wout D l) (X.pn ++ pins) (fun e s₁ => wpAny (model X.prog X.w) X.A (noteFrame e X.env) (fun _ s₂ => wpAny (model X.prog X.w) X.A (setFlight e none) (fun _ s₃ =>
    wpAny (model X.prog X.w) X.A (handleBy e X.env (h₀ :: hds)) (SP X pins D) X.xe s₃) X.xe s₂) X.xe s₁) (fun u s' xx => ?_) PassesOwn.looking).run [] s σ H D (I.toTry _) h) (fun f s1 hsp => ?_) (fun e s1 he => he)
  · obtain ⟨a, B, sI, pins', σ', H', cls, d, rfl, J', nb, up, sky, na, os, ag, w⟩ := xx
    have J : Inv X pins σ' H' sI := J'.ofTry ok
    have sky' : Sky B (X.env :: X.outer) a (Zc cls d) X.env.locals s'.heap := by rw [← hs]; exact sky
    show wpAny (model X.prog X.w) X.A (noteFrame (.ref a) X.env) _ _ _
    refine Sky.land Zc.steady hfr hf sky' fun h3 fl3 up3 => ?_
    have J3 : Inv X pins σ' H' { s' with heap := h3 } := J.landed nb fl3.1 (up.trans up3) os ag
    obtain ⟨oe3, vs3, he3, hz3, hd3⟩ := fl3.there
    have notFr : ∀ {h : Heap} {o : Obj} {vs : Array Value}, h.FunFrames B (X.env :: X.outer) → h.get? a = some o → o.data = .fields vs → a ∉ frs (X.env :: X.outer) := fun {h o vs} ff e dd hm => by
      obtain ⟨_, o', e', hnf⟩ := ff.mem hm
      rw [e] at e'; cases e'
      exact hnf _ dd
    have nfr := notFr fl3.2.2.1 he3 hd3
    have nL : a ≠ X.env.locals := fun z => nfr (List.mem_filterMap.mpr ⟨X.env, List.mem_cons_self, by rw [hf, z]⟩)
    have nF : a ∉ X.fs := fun hm => by
      obtain ⟨e, he, q⟩ := List.mem_filterMap.mp hm
      exact nfr (List.mem_filterMap.mpr ⟨e, List.mem_cons_of_mem _ he, q⟩)
    have S3 := J3.suite he3 hd3 na nL nF
    have go : ∀ {hds' : List ExceptHandler} {l' : List (Value × (Addr → Value → Option Addr → TS))}, HdsAs X n hds' l' → wManyAs X.K i Wout D l' cls d σ' H' →
        wpAny (model X.prog X.w) X.A (handleBy (.ref a) X.env hds') (SP X pins D) X.xe { s' with heap := h3 } := by
      intro hds' l' hk
      induction hk with
      | nil =>
        intro w
        refine wpAny_handleBy_nil ?_
        obtain ⟨k1, k2, k3, oe, vs, T, oT, ts', he, hz, hd, h1, hr⟩ := id fl3
        unfold PySem.passOn
        refine wpAny_bind (wpAny_field he hd h1 ?_)
        rw [if_neg (show ¬ ((Value.ref T == Value.none) = true) from by simp)]
        have fin : wpAny (model X.prog X.w) X.A (setFlight (.ref a) X.env.frame) (fun _ s4 => wpAny (model X.prog X.w) X.A (throw (.ref a) : Sem Flow) (SP X pins D) X.xe s4) X.xe { s' with heap := h3 } := by
          rw [hf]
          refine HandSPX.setFlight_upZ fl3 fun h4 hh4 up4 => wpAny_throw (tk _ _ ?_)
          exact ⟨a, B, sI, pins, σ', H', cls, d, rfl, J, nb, (up.trans up3).trans up4, .inr (.inr (by rw [hs]; exact hh4)), na, os, ag, w⟩
        first
          | exact wpAny_bind (wpAny_pure (wpAny_bind fin))
          | exact wpAny_bind fin
      | @cons x c ts b₀ suite np pos' hds2 l2 hc hsu r ih =>
        intro w
        obtain ⟨b, hb1, hyes, hno⟩ := w
        refine wpAny_handleBy_cons (codeAny_handlers_test ?_) (by intro q; cases q)
        have LT : PySem.W.Looks (model X.prog X.w) h3 (typeOf (.ref a)) cls := fun A Q E s k q => wpAny_typeOf_ref (k _ _ he3) (by rw [hz3.1]; exact q)
        have LM := PySem.W.exm_one (M := model X.prog X.w) (J3.kIn) LT hb1
        have test : ∀ {Q : Value → Shared → Prop} {E : Value → Shared → Prop}, Q c { s' with heap := h3 } → wpAny (model X.prog X.w) (X.A.mark (some (.ref a))) (eval (.Name x np) X.env) Q E { s' with heap := h3 } := fun {Q E} q => by
          obtain ⟨hg, hdbg, hm | ⟨hm, hv, hnn⟩⟩ := hc
          · exact ld_glob (X := X.suite a ((a, oe3) :: (X.pn ++ pins))) S3 hg hm q hdbg
          · exact ld_blt (X := X.suite a ((a, oe3) :: (X.pn ++ pins))) S3 hg hm hv q hnn hdbg
        refine test (LM.here ?_)
        cases b with
        | true =>
          refine codeAny_handlers_suite_as ?_
          refine HandSPX.lands_againZ fl3 fun h4 fl4 up4 => ?_
          have J4 : Inv X pins σ' H' { s' with heap := h4 } := J.landed nb fl4.1 ((up.trans up3).trans up4) os ag
          obtain ⟨oe4, vs4, he4, hz4, hd4⟩ := fl4.there
          have S4 := J4.suite he4 hd4 na nL nF
          refine store_ok (X := X.suite a ((a, oe4) :: (X.pn ++ pins))) (v := .ref a) S4 hN hi hloc rfl (fun s5 S5 => ?_) (.inr hln)
          refine wpAny_mono ((hsu a oe4 cls d (X.pn ++ pins) hz4 ⟨_, hd4⟩).run [] s5 _ H' _ S5 (hyes rfl a na)) (fun f s6 hsp => ?_) (fun _ _ z => False.elim z)
          have end_ : ∀ {σ6 : L2.St} {H6 : Hp} {Q : Shared → Prop}, Inv (X.suite a ((a, oe4) :: (X.pn ++ pins))) [] σ6 H6 s6 → (∀ s7, Inv X pins (σ6.set i none) H6 s7 → Q s7) →
              wpAny (model X.prog X.w) X.A (do bindName X.env n .none; unbindBehindTheSuite X.env n pos') (fun _ s7 => Q s7) X.xe s6 := fun {σ6 H6 Q} S6 hq => gone_ok (S6.unsuite ok) hN hi hln hq
          cases f with
          | next =>
            obtain ⟨σ6, H6, S6, q6⟩ := hsp
            exact end_ S6 fun s7 J7 => ⟨_, _, J7, q6⟩
          | brk =>
            obtain ⟨σ6, H6, S6, q6⟩ := hsp
            exact end_ S6 fun s7 J7 => ⟨_, _, J7, q6⟩
          | cont =>
            obtain ⟨σ6, H6, S6, q6⟩ := hsp
            exact end_ S6 fun s7 J7 => ⟨_, _, J7, q6⟩
          | ret u =>
            obtain ⟨v6, σ6, H6, S6, r6, q6⟩ := hsp
            exact end_ S6 fun s7 J7 => ⟨_, _, _, J7, r6, q6⟩
        | false =>
          show wpAny _ X.A (handleBy (.ref a) X.env hds2) _ _ _
          exact ih (hno rfl)
    exact go hh w
  · cases f with
    | next =>
      obtain ⟨σ', H', J', q⟩ := hsp
      exact wpAny_execs_nil ⟨σ', H', J'.ofTry ok, q⟩
    | brk =>
      obtain ⟨σ', H', J', q⟩ := hsp
      exact ⟨σ', H', J'.ofTry ok, q⟩
    | cont =>
      obtain ⟨σ', H', J', q⟩ := hsp
      exact ⟨σ', H', J'.ofTry ok, q⟩
    | ret u =>
      obtain ⟨v, σ', H', J', r, q⟩ := hsp
      exact ⟨v, σ', H', J'.ofTry ok, r, q⟩
end
/-! ### defs and methods that may raise, called by name; the wish stands at the caller's slots -/
structure ClX (P : Program) (w : World) (K : PySem.W.Frag) (mg : Str → Option Value) (base : Heap) (k : Nat) (x : Str) (sp : Sp) : Prop where
  ex : ∃ (f : Addr) (fd : FuncData) (ps : List Str), FnOk P w K mg base (L2.CX P w) k f fd ps sp ∧ mg x = some (.ref f) ∧ PySem.W.keepIn K (.ref f) = true ∧ Binds K fd ps []
structure MtX (P : Program) (w : World) (K : PySem.W.Frag) (mg : Str → Option Value) (base : Heap) (k : Nat) (C : Addr) (m : Str) (sp : Sp) : Prop where
  ex : ∃ (f : Addr) (fd : FuncData) (ps : List Str), Cls K C ∧ Meth K C m f ∧ FnOk P w K mg base (L2.CX P w) k f fd ps sp ∧ Binds K fd ps []
/-- an own exception class of the program that is made by its own __init__ -/
structure Xk (P : Program) (w : World) (K : PySem.W.Frag) (mg : Str → Option Value) (base : Heap) (k : Nat) (x : Str) (C : Addr) (sp : Sp) : Prop where
  oe : OexC K C
  ex : ∃ (f : Addr) (fd : FuncData) (ps : List Str), PySem.W.findIn K (.ref C) "__init__" = some (some (.ref f)) ∧ PySem.W.typeIn K (.ref f) = some (.type "function") ∧ FnOk P w K mg base CX0 k f fd ps sp ∧ Binds K fd ps [] ∧ mg x = some (.ref C)
section
variable {P : Program} {w : World} {K : PySem.W.Frag} {mg : Str → Option Value} {base : Heap}
theorem clX_of {k : Nat} {x : Str} {sp : Sp} {st : Stmt} {f : Addr} {fd : FuncData} {ps : List Str} (ok : FnOk P w K mg base (L2.CX P w) k f fd ps sp) (F : Fun K x x st f fd) (g : mg x = some (.ref f)) (b : Binds K fd ps []) : ClX P w K mg base k x sp := ⟨f, fd, ps, ok, g, F.kp, b⟩
end
def tMethX (C : Addr) (m : Str) (sp : Sp) (E : L2.St → XK) (ta : TE) (t : TA) : TE := fun σ H Q => ta σ H fun x H1 => ∃ a dx fs, x = .ref a ∧ H1 a = some (.ins C dx fs) ∧ fs.lookup m = none ∧ t σ H1 fun vs H2 => sp (.ref a :: vs) H2 Q (E σ)
section
variable {X : Cx} {W : WX} {k j : Nat} {x m : Str} {sp : Sp} {p pos apos : Pos} {e o : Expr} {es : List Expr} {ta : TE} {t : TA} {C : Addr}
theorem pe_clX (c : ClX X.prog X.w X.K X.mg X.base k x sp) (hr : Room j X.A) (hk : k ≤ j) (hg : Gl X x) (tk : Takes X W) (ha : PA X (e :: es) t)
    (hdb : (x == ("__debug__" : Str)) = false := by decide) (he : starEach (e :: es) X.env = (false, eval e X.env) :: starEach es X.env := by rfl) (hpl : (backTo pos (starEach es X.env)).any (·.1) = false := by rfl) :
    PE X (.Call (.Name x p) (e :: es) [] pos) (tCallS sp (WE W) t) := by
  obtain ⟨f, fd, ps, F, hm, kp, b⟩ := c.ex
  exact pe_callS F (hr.mono hk) hg hm kp b (fun σ => passAt tk σ) ha hdb he hpl
theorem pe_mtX {pl : Sem Bool} (c : MtX X.prog X.w X.K X.mg X.base k C m sp) (hr : Room j X.A) (hk : k ≤ j) (tk : Takes X W) (he : PE X o ta) (ha : PA X (e :: es) t)
    (hst : starEach (e :: es) X.env = (false, eval e X.env) :: starEach es X.env := by rfl) (hpl : (backTo pos (starEach es X.env)).any (·.1) = false := by rfl)
    (ht : eval (.Call (.Attribute o m apos) (e :: es) [] pos) X.env = (do
      let ov ← eval o X.env
      standAt apos.atName
      let (f, first) ← holding [ov] (getMethod ov m pl)
      callWith pos f first (backTo pos (starEach (e :: es) X.env)) (backToKw pos (keywordEach [] X.env))) := by rfl) :
    PE X (.Call (.Attribute o m apos) (e :: es) [] pos) (tMethX C m sp (WE W) ta t) := by
  obtain ⟨f, fd, ps, hc, hm, F, b⟩ := c.ex
  refine ⟨fun pins s σ H Q I h => ?_⟩
  refine PySem.W.methodCall_KW (pl := pl) (thn (he.run pins s σ H _ I h) fun u s1 ⟨x, H1, I1, rx, a, dx, fs, ex, ea, l, q⟩ => ?_) ht
  subst ex
  obtain rfl : u = Value.ref a := rx
  refine getmeth_ok I1 ea hc hm l ?_
  refine PySem.W.callWith_K (first := [.ref a]) (h₀ := X.base) I.ok.mod.kin hm.kp (thn (ha.run pos pins s1 σ H1 _ I1 q) fun us s2 ⟨vs, H2, I2, r, q2⟩ => ⟨I2.kIn, ?_⟩) hst hpl
  exact run_fnS (us := .ref a :: us) (vs := .ref a :: vs) F (hr.mono hk) b (passAt tk σ) I2 (.cons rfl r) q2
/-- raise C(e, ..) -/
theorem ps_xk (c : Xk X.prog X.w X.K X.mg X.base k x C sp) (hr : Room j X.A) (hk : k + 1 ≤ j) (hc : X.calm = true) (tk : Takes X W) (hg : Gl X x) (ha : PA X (e :: es) t)
    (hdb : (x == ("__debug__" : Str)) = false := by decide) (he : starEach (e :: es) X.env = (false, eval e X.env) :: starEach es X.env := by rfl) (hpl : (backTo pos (starEach es X.env)).any (·.1) = false := by rfl) :
    PS X (.Raise (some (.Call (.Name x p) (e :: es) [] pos)) none apos) (fun _ σ H => tMkO C sp [] t σ H (fun cls d H' => W cls d σ H')) := by
  obtain ⟨fI, fd, ps, iC, tI, F, b, gC⟩ := c.ex
  exact ps_raise hc tk (pmk_oex c.oe iC tI F (hr.mono hk) b .nil pass0 hg gC ha hdb he hpl)
end
end Kn
/-! ### own exceptions: facts, f-strings, __init__ with one field and with four, raising -/
namespace Kn
open PySem PySem.Spec PyProof.Rows L2 Evl SX
section
variable {K : PySem.W.Frag}
theorem kit_ref {C B : Addr} {b : Bool} (hd : PySem.W.hasDictIn K B = true) (ht : PySem.W.typeIn K (.ref B) = some (.type "type")) (hs : PySem.W.subIn K (.ref C) (.ref B) = some b) (hcc : PySem.W.subIn K (.ref C) (.ref C) = some true) : PySem.W.kitOne K (.ref C) (.ref B) = some b := by
  unfold PySem.W.kitOne
  by_cases h : C = B
  · subst h
    rw [if_pos (beq_self_eq_true _)]
    exact hcc.symm.trans hs
  · rw [if_neg (fun z => h (Value.ref.inj (beq_iff_eq.mp z)))]
    obtain ⟨cd, hc, _⟩ := PySem.W.any_some hd
    show (if ((PySem.W.clsIn K B).isSome && PySem.W.typeIn K (.ref B) == some (.type "type")) = true then PySem.W.subIn K (.ref C) (.ref B) else none) = some b
    rw [if_pos (by rw [hc, ht]; rfl)]
    exact hs
structure Xc (K : PySem.W.Frag) (C B : Addr) : Prop where
  oe : OexC K C
  xc : ExcC K C
  xf : XfC K C
  me : PySem.W.exmOne K (.ref C) (.ref C) = some true
  kB : PySem.W.kitOne K (.ref C) (.ref B) = some true
end
section
variable {K : PySem.W.Frag} {σ : L2.St} {H H' H1 : Hp} {te t1 t2 t3 t4 : TE}
theorem ev_fmtS {l : List Nat} (h : Ev te σ H (.str (S l))) (hl : l.length ≤ 100000) : Ev (tFmt te) σ H (.str (S l)) := fun H1 e Q q => h H1 e _ fun H2 e2 => .inl ⟨S l, rfl, by rw [S_len]; exact sz_of hl, q H2 e2⟩
theorem ev_fmtI {n : Nat} (h : Ev te σ H (.int (n : Int))) (hn : n < 10 ^ 9) : Ev (tFmt te) σ H (.str (S (TL.numL n))) := fun H1 e Q q => h H1 e _ fun H2 e2 => .inr ⟨(n : Int), rfl, by
  rw [Int.natAbs_natCast]
  have : n.log2 < 100 := by
    by_cases h0 : n = 0
    · subst h0
      decide
    · exact (Nat.log2_lt h0).mpr (Nat.lt_trans hn (by decide))
  omega, by
  have z := num_S n
  rw [← z] at q
  exact q H2 e2⟩
theorem js_run : ∀ {ts : List TE} {ls : List (List Nat)}, Paired (fun t l => Ev t σ H (.str (S l))) ts ls → ∀ (acc : List Nat) (H1 : Hp), Ex H H1 → acc.length + (ls.map (·.length)).sum ≤ 100000 → ∀ Q : Str → Hp → Prop, (∀ H2, Ex H1 H2 → Q (S (acc ++ ls.flatten)) H2) → tJs ts (S acc) σ H1 Q
  | [], [], .nil, acc, H1, e, _, Q, q => by
    rw [List.flatten_nil, List.append_nil] at q
    exact q H1 (Ex.refl H1)
  | t :: ts, l :: ls, .cons h r, acc, H1, e, hz, Q, q => h H1 e _ fun H2 e2 => by
    rw [List.map_cons, List.sum_cons] at hz
    refine ⟨S l, rfl, ?_, ?_⟩
    · rw [S_cat, S_len, List.length_append]
      exact sz_of (by omega)
    · rw [S_cat]
      refine js_run r (acc ++ l) H2 (e.trans e2) (by rw [List.length_append]; omega) Q fun H3 e3 => ?_
      rw [List.append_assoc, ← List.flatten_cons]
      exact q H3 (e2.trans e3)
theorem ev_js {ts : List TE} {ls : List (List Nat)} (h : Paired (fun t l => Ev t σ H (.str (S l))) ts ls) (hz : (ls.map (·.length)).sum ≤ 100000) : Ev (fun σ H Q => tJs ts Str.empty σ H fun out H1 => Q (.str out) H1) σ H (.str (S ls.flatten)) := fun H1 e Q q => by
  have z : Str.empty = S [] := rfl
  show tJs ts Str.empty σ H1 _
  rw [z]
  exact js_run h [] H1 e (by rw [List.length_nil]; omega) _ fun H2 e2 => q H2 e2
/-- Base.__init__(self, text) -/
theorem q_beinit {D : Ends} {tz : TS} {a C : Addr} {ta tb : TE} {l : List Nat} (ha : Ev ta σ H (.ref a)) (hb : Ev tb σ H (.str (S l))) (oe : OexC K C) (ho : H a = some (exo a C none)) (k : ∀ H1, Ex H H1 → tz D σ H1) : tSeq (tDrop (tVeI K (tCons ta (tCons tb tNil)))) tz D σ H :=
  ha H (Ex.refl H) _ fun H1 e1 => hb H1 e1 _ fun H2 e2 => ⟨a, C, [.str (S l)], rfl, (by show 1 ≤ 1000; decide), oe, e2 _ _ (e1 _ _ ho), k H2 (e1.trans e2)⟩
/-- an exception's new dict at dx: the fields -/
def XMade (H H' : Hp) (a C dx : Addr) (fs : List (Str × V)) : Prop := H' a = some (exo a C (some dx)) ∧ H' dx = some (exd dx fs) ∧ ∀ b o, b ≠ a → b ≠ dx → H b = some o → H' b = some o
def sp_I1 (f : Str) (K : PySem.W.Frag) : Sp := fun vs H Q _ => ∃ (a C : Addr) (l : List Nat), vs = [.ref a, .str (S l)] ∧ l.length ≤ 90000 ∧ H a = some (exo a C none) ∧ OexC K C ∧ PySem.W.findIn K (.ref C) f = some none ∧
  ∀ dx H', H dx = none → dx ≠ a → XMade H H' a C dx [(f, .str (S l))] → Q .non H'
theorem xmade_new {a C dx : Addr} {f : Str} {v : V} (e : Ex H H1) (ne : dx ≠ a) : XMade H (upd (upd H1 dx (exd dx [(f, v)])) a (exo a C (some dx))) a C dx [(f, v)] :=
  ⟨upd_same, by rw [upd_ne ne, upd_same], fun b o h1 h2 h => by rw [upd_ne h1, upd_ne h2]; exact e _ _ h⟩
theorem XMade.more {a C dx : Addr} {fs : List (Str × V)} {f : Str} {v : V} (m : XMade H H1 a C dx fs) (ne : dx ≠ a) (e : Ex H1 H') : XMade H (upd H' dx (exd dx ((f, v) :: fs))) a C dx ((f, v) :: fs) :=
  ⟨by rw [upd_ne (Ne.symm ne)]; exact e _ _ m.1, upd_same, fun b o h1 h2 h => by rw [upd_ne h2]; exact e _ _ (m.2.2 b o h1 h2 h)⟩
theorem xm_raise {W : WX} {a C dx : Addr} {fs : List (Str × V)} {H2 : Hp} (e2 : Ex H H2) (na : H2 a = none) (nd : H2 dx = none) (m : XMade (upd H2 a (exo a C none)) H' a C dx fs) (hk : ∀ d H', Ex H H' → H' d = some (.xd fs) → W (.ref C) (some d) σ H') : W (.ref C) (some dx) σ (upd (del H' a) dx (.xd fs)) := by
  refine hk dx _ (fun b o hb => ?_) upd_same
  have hb2 := e2 _ _ hb
  have n1 := ne_of_none hb2 nd
  have n2 := ne_of_none hb2 na
  rw [upd_ne n1, del_ne n2]
  exact m.2.2 b o n2 n1 (by rw [upd_ne n2]; exact hb2)
theorem raise1 {W : WX} {C : Addr} {f : Str} {l : List Nat} (oe : OexC K C) (nf : PySem.W.findIn K (.ref C) f = some none) (hl : l.length ≤ 90000) (hv : Ev te σ H (.str (S l)))
    (hk : ∀ d H', Ex H H' → H' d = some (.xd [(f, .str (S l))]) → W (.ref C) (some d) σ H') : tMkO C (sp_I1 f K) [] (tCons te tNil) σ H (fun cls d H' => W cls d σ H') :=
  hv H (Ex.refl _) _ fun H2 e2 => ⟨(by show 1 ≤ 1000; decide), fun a na => ⟨a, C, l, rfl, hl, upd_same, oe, nf, fun dx H' hdx ne m =>
    ⟨rfl, dx, _, m.1, m.2.1, upd_none hdx, xm_raise e2 na (upd_none hdx) m hk⟩⟩⟩
theorem init1_body {D : Ends} {f : Str} {a C : Addr} {l m : List Nat} {tj : TE} (hj : Ev tj [some (.ref a), some (.str (S l))] H (.str (S m))) (ha : H a = some (exo a C none)) (oe : OexC K C) (nf : PySem.W.findIn K (.ref C) f = some none)
    (q : ∀ dx H', H dx = none → dx ≠ a → XMade H H' a C dx [(f, .str (S l))] → D.nx [some (.ref a), some (.str (S l))] H') : tSeq (tDrop (tVeI K (tCons (tVar 0) (tCons tj tNil)))) (tOst K f (tVar 0) (tVar 1)) D [some (.ref a), some (.str (S l))] H := by
  refine q_beinit (ev_var rfl) hj oe ha fun H1 e1 => ?_
  exact ⟨_, rfl, _, rfl, a, C, rfl, oe, nf, .inl ⟨e1 _ _ ha, fun dx hd ne => q dx _ (fresh_back e1 hd) ne (xmade_new e1 ne)⟩⟩
/-- path, line, column, reason -/
def fs4 (p : List Nat) (n c : Nat) (r : List Nat) : List (Str × V) := [("reason", .str (S r)), ("column", .int (c : Int)), ("line", .int (n : Int)), ("path", .str (S p))]
structure Nf4 (K : PySem.W.Frag) (C : Addr) : Prop where
  p : PySem.W.findIn K (.ref C) "path" = some none
  l : PySem.W.findIn K (.ref C) "line" = some none
  c : PySem.W.findIn K (.ref C) "column" = some none
  r : PySem.W.findIn K (.ref C) "reason" = some none
def Sm4 (p : List Nat) (n c : Nat) (r : List Nat) : Prop := p.length ≤ 9000 ∧ r.length ≤ 9000 ∧ n < 10 ^ 9 ∧ c < 10 ^ 9
def sp_I4 (K : PySem.W.Frag) : Sp := fun vs H Q _ => ∃ (a C : Addr) (p : List Nat) (n c : Nat) (r : List Nat), vs = [.ref a, .str (S p), .int (n : Int), .int (c : Int), .str (S r)] ∧ Sm4 p n c r ∧ H a = some (exo a C none) ∧ OexC K C ∧ Nf4 K C ∧
  ∀ dx H', H dx = none → dx ≠ a → XMade H H' a C dx (fs4 p n c r) → Q .non H'
theorem raise4 {W : WX} {C : Addr} {p r : List Nat} {n c : Nat} (oe : OexC K C) (nf : Nf4 K C) (hl : Sm4 p n c r) (h1 : Ev t1 σ H (.str (S p))) (h2 : Ev t2 σ H (.int (n : Int))) (h3 : Ev t3 σ H (.int (c : Int))) (h4 : Ev t4 σ H (.str (S r)))
    (hk : ∀ d H', Ex H H' → H' d = some (.xd (fs4 p n c r)) → W (.ref C) (some d) σ H') : tMkO C (sp_I4 K) [] (tCons t1 (tCons t2 (tCons t3 (tCons t4 tNil)))) σ H (fun cls d H' => W cls d σ H') :=
  ea_cons h1 (ea_cons h2 (ea_cons h3 (ea_cons h4 ea_nil))) H (Ex.refl _) _ fun H2 e2 => ⟨(by show 4 ≤ 1000; decide), fun a na => ⟨a, C, p, n, c, r, rfl, hl, upd_same, oe, nf, fun dx H' hdx ne m =>
    ⟨rfl, dx, _, m.1, m.2.1, upd_none hdx, xm_raise e2 na (upd_none hdx) m hk⟩⟩⟩
theorem init4_body {D : Ends} {a C : Addr} {p r m : List Nat} {n c : Nat} {tj : TE} {σ0 : L2.St} (hσ : σ0 = [some (.ref a), some (.str (S p)), some (.int (n : Int)), some (.int (c : Int)), some (.str (S r))]) (hj : Ev tj σ0 H (.str (S m))) (ha : H a = some (exo a C none)) (oe : OexC K C) (nf : Nf4 K C)
    (q : ∀ dx H', H dx = none → dx ≠ a → XMade H H' a C dx (fs4 p n c r) → D.nx σ0 H') : tSeq (tDrop (tVeI K (tCons (tVar 0) (tCons tj tNil)))) (tSeq (tOst K "path" (tVar 0) (tVar 1)) (tSeq (tOst K "line" (tVar 0) (tVar 2)) (tSeq (tOst K "column" (tVar 0) (tVar 3)) (tOst K "reason" (tVar 0) (tVar 4))))) D σ0 H := by
  subst hσ
  refine q_beinit (ev_var rfl) hj oe ha fun H1 e1 => ?_
  refine ⟨_, rfl, _, rfl, a, C, rfl, oe, nf.p, .inl ⟨e1 _ _ ha, fun dx hd ne => ?_⟩⟩
  have m1 := xmade_new (C := C) (f := "path") (v := .str (S p)) e1 ne
  refine ⟨_, rfl, _, rfl, a, C, rfl, oe, nf.l, .inr ⟨dx, _, m1.1, m1.2.1, (by show 1 ≤ 900; decide), ?_⟩⟩
  have m2 := m1.more (f := "line") (v := .int (n : Int)) ne (Ex.refl _)
  refine ⟨_, rfl, _, rfl, a, C, rfl, oe, nf.c, .inr ⟨dx, _, m2.1, m2.2.1, (by show 2 ≤ 900; decide), ?_⟩⟩
  have m3 := m2.more (f := "column") (v := .int (c : Int)) ne (Ex.refl _)
  refine ⟨_, rfl, _, rfl, a, C, rfl, oe, nf.r, .inr ⟨dx, _, m3.1, m3.2.1, (by show 3 ≤ 900; decide), ?_⟩⟩
  exact q dx _ (fresh_back e1 hd) ne (m3.more ne (Ex.refl _))
end
end Kn
/-! ### data at any depth, all of it tracked -/
namespace Kn
open PySem PySem.Spec PyProof.Rows L2 Evl SX
mutual
inductive Dt (H : Hp) : V → PyData → Prop
  | non : Dt H .non .none
  | bl (b : Bool) : Dt H (.bl b) (.bool b)
  | int (i : Int) : Dt H (.int i) (.int i)
  | str (x : Str) : Dt H (.str x) (.str x)
  | lst {a : Addr} {xs : List V} {ds : List PyData} : H a = some (.lst xs) → DtA H xs ds → Dt H (.ref a) (.list ds)
  | tup {a : Addr} {xs : List V} {ds : List PyData} : H a = some (.tup xs) → DtA H xs ds → Dt H (.ref a) (.tuple ds)
inductive DtA (H : Hp) : List V → List PyData → Prop
  | nil : DtA H [] []
  | cons {v : V} {vs : List V} {d : PyData} {ds : List PyData} : Dt H v d → DtA H vs ds → DtA H (v :: vs) (d :: ds)
end
mutual
theorem Dt.mono {H H1 : Hp} (e : Ex H H1) : ∀ {v : V} {d : PyData}, Dt H v d → Dt H1 v d
  | _, _, .non => .non
  | _, _, .bl b => .bl b
  | _, _, .int i => .int i
  | _, _, .str x => .str x
  | _, _, .lst h r => .lst (e _ _ h) (DtA.mono e r)
  | _, _, .tup h r => .tup (e _ _ h) (DtA.mono e r)
theorem DtA.mono {H H1 : Hp} (e : Ex H H1) : ∀ {vs : List V} {ds : List PyData}, DtA H vs ds → DtA H1 vs ds
  | _, _, .nil => .nil
  | _, _, .cons h r => .cons (Dt.mono e h) (DtA.mono e r)
end
mutual
theorem Dt.dp {K : PySem.W.Frag} {H : Hp} : ∀ {v : V} {d : PyData}, Dt H v d → Dp K H v d
  | _, _, .non => .non
  | _, _, .bl b => .bl b
  | _, _, .int i => .int i
  | _, _, .str x => .str x
  | _, _, .lst h r => .lst (sq_of h) (DtA.dp r)
  | _, _, .tup h r => .tup (st_of h) (DtA.dp r)
theorem DtA.dp {K : PySem.W.Frag} {H : Hp} : ∀ {vs : List V} {ds : List PyData}, DtA H vs ds → DpAll K H vs ds
  | _, _, .nil => .nil
  | _, _, .cons h r => .cons (Dt.dp h) (DtA.dp r)
end
mutual
/-- no list in it -/
def noL : PyData → Bool
  | .list _ => false
  | .dict _ => false
  | .tuple ds => noLA ds
  | .none => true
  | .bool _ => true
  | .int _ => true
  | .str _ => true
def noLA : List PyData → Bool
  | [] => true
  | d :: ds => noL d && noLA ds
end
mutual
/-- what has no list in it does not see that a list changes -/
theorem Dt.upd {H : Hp} {p : Addr} {o o' : HO} (hp : H p = some o) (ho : ∀ xs, o ≠ .tup xs) : ∀ {v : V} {d : PyData}, Dt H v d → noL d = true → Dt (L2.upd H p o') v d
  | _, _, .non, _ => .non
  | _, _, .bl b, _ => .bl b
  | _, _, .int i, _ => .int i
  | _, _, .str x, _ => .str x
  | _, _, .lst _ _, h => by
    unfold noL at h
    cases h
  | _, _, .tup h r, n => by
    unfold noL at n
    exact .tup (by rw [upd_ne (ne_of h hp fun z => ho _ z.symm)]; exact h) (DtA.upd hp ho r n)
theorem DtA.upd {H : Hp} {p : Addr} {o o' : HO} (hp : H p = some o) (ho : ∀ xs, o ≠ .tup xs) : ∀ {vs : List V} {ds : List PyData}, DtA H vs ds → noLA ds = true → DtA (L2.upd H p o') vs ds
  | _, _, .nil, _ => .nil
  | _, _, .cons h r, n => by
    unfold noLA at n
    rw [Bool.and_eq_true] at n
    exact .cons (Dt.upd hp ho h n.1) (DtA.upd hp ho r n.2)
end
theorem DtA.len {H : Hp} : ∀ {vs : List V} {ds : List PyData}, DtA H vs ds → vs.length = ds.length
  | _, _, .nil => rfl
  | _, _, .cons _ r => by rw [List.length_cons, List.length_cons, DtA.len r]
theorem DtA.snoc {H : Hp} {v : V} {d : PyData} (h : Dt H v d) : ∀ {vs : List V} {ds : List PyData}, DtA H vs ds → DtA H (vs ++ [v]) (ds ++ [d])
  | _, _, .nil => .cons h .nil
  | _, _, .cons a r => .cons a (DtA.snoc h r)
theorem DtA.app {H : Hp} {vs2 : List V} {ds2 : List PyData} (h : DtA H vs2 ds2) : ∀ {vs : List V} {ds : List PyData}, DtA H vs ds → DtA H (vs ++ vs2) (ds ++ ds2)
  | _, _, .nil => h
  | _, _, .cons a r => .cons a (DtA.app h r)
theorem DtA.get {H : Hp} : ∀ {vs : List V} {ds : List PyData}, DtA H vs ds → ∀ (i : Nat) (d : PyData), ds[i]? = some d → ∃ v, vs[i]? = some v ∧ Dt H v d
  | _, _, .cons (v := v) h r, 0, d', e => by
    cases Option.some.inj e
    exact ⟨v, rfl, h⟩
  | _, _, .cons h r, i + 1, d', e => by
    obtain ⟨v, e1, h1⟩ := DtA.get r i d' (by simpa using e)
    exact ⟨v, by simpa using e1, h1⟩
  | _, _, .nil, _, _, e => by simp at e
theorem DtA.drop {H : Hp} : ∀ {vs : List V} {ds : List PyData} (n : Nat), DtA H vs ds → DtA H (vs.drop n) (ds.drop n)
  | _, _, 0, h => h
  | _, _, n + 1, .nil => .nil
  | _, _, n + 1, .cons _ r => DtA.drop n r
theorem Dt.tup_inv {H : Hp} {v : V} {ds : List PyData} (h : Dt H v (.tuple ds)) : ∃ a xs, v = .ref a ∧ H a = some (.tup xs) ∧ DtA H xs ds := by
  cases h with
  | tup h r => exact ⟨_, _, rfl, h, r⟩
theorem Dt.lst_inv {H : Hp} {v : V} {ds : List PyData} (h : Dt H v (.list ds)) : ∃ a xs, v = .ref a ∧ H a = some (.lst xs) ∧ DtA H xs ds := by
  cases h with
  | lst h r => exact ⟨_, _, rfl, h, r⟩
theorem Dt.str_inv {H : Hp} {v : V} {x : Str} (h : Dt H v (.str x)) : v = .str x := by cases h; rfl
theorem Dt.int_inv {H : Hp} {v : V} {x : Int} (h : Dt H v (.int x)) : v = .int x := by cases h; rfl
theorem Dt.bl_inv {H : Hp} {v : V} {x : Bool} (h : Dt H v (.bool x)) : v = .bl x := by cases h; rfl
theorem Dt.non_inv {H : Hp} {v : V} (h : Dt H v .none) : v = .non := by cases h; rfl
def EvD (te : TE) (σ : L2.St) (H : Hp) (d : PyData) : Prop := ∀ H1, Ex H H1 → ∀ Q : VK, (∀ v H2, Ex H1 H2 → Dt H2 v d → Q v H2) → te σ H1 Q
def EvDA (ta : TA) (σ : L2.St) (H : Hp) (ds : List PyData) : Prop := ∀ H1, Ex H H1 → ∀ Q : List V → Hp → Prop, (∀ vs H2, Ex H1 H2 → DtA H2 vs ds → Q vs H2) → ta σ H1 Q
def RtD (H : Hp) (d : PyData) (Q : VK) : Prop := ∀ v H1, Ex H H1 → Dt H1 v d → Q v H1
theorem RtD.mono {H H1 : Hp} {d : PyData} {Q : VK} (q : RtD H d Q) (e : Ex H H1) : RtD H1 d Q := fun v H2 e2 h => q v H2 (e.trans e2) h
section
variable {K : PySem.W.Frag} {σ : L2.St} {H H' : Hp} {ta tb te : TE} {t u : TT} {x y z v : V} {d e' : PyData} {tas tr : TA} {D : Ends} {tz tu : TS} {ds : List PyData}
theorem evd_of (h : Ev te σ H v) (hd : Dt H v d) : EvD te σ H d := fun H1 e Q q => h H1 e _ fun H2 e2 => q v H2 e2 (hd.mono (e.trans e2))
theorem evd_is (h : EvD te σ H d) (e : d = e') : EvD te σ H e' := by rw [← e]; exact h
theorem EvD.mono (e : Ex H H') (h : EvD te σ H d) : EvD te σ H' d := fun H1 a Q q => h H1 (e.trans a) Q q
theorem evd_str {l : List Nat} (h : Ev te σ H (.str (S l))) : EvD te σ H (.str (S l)) := evd_of h (.str _)
theorem evd_int {i : Int} (h : Ev te σ H (.int i)) : EvD te σ H (.int i) := evd_of h (.int _)
theorem evd_bl {b : Bool} (h : Ev te σ H (.bl b)) : EvD te σ H (.bool b) := evd_of h (.bl _)
theorem evd_cS {s : Str} {l : List Nat} (h : s.cps.toList = l) : EvD (tC (.str s)) σ H (.str (S l)) := evd_str (ev_cS h)
theorem ev_ofS {l : List Nat} (h : EvD te σ H (.str (S l))) : Ev te σ H (.str (S l)) := fun H1 e Q q => h H1 e _ fun v H2 e2 hv => by
  rw [hv.str_inv]
  exact q H2 e2
theorem ev_ofI {i : Int} (h : EvD te σ H (.int i)) : Ev te σ H (.int i) := fun H1 e Q q => h H1 e _ fun v H2 e2 hv => by
  rw [hv.int_inv]
  exact q H2 e2
theorem eda_nil : EvDA tNil σ H [] := fun H1 _ _ q => q [] H1 (Ex.refl H1) .nil
theorem eda_cons (h : EvD te σ H d) (hr : EvDA tr σ H ds) : EvDA (tCons te tr) σ H (d :: ds) := fun H1 e Q q => h H1 e _ fun v H2 e2 hv => hr H2 (e.trans e2) _ fun vs H3 e3 hvs => q _ H3 (e2.trans e3) (.cons (hv.mono e3) hvs)
theorem evd_tup (h : EvDA tas σ H ds) (hl : ds.length ≤ 100000) : EvD (tTup tas) σ H (.tuple ds) := fun H1 e Q q => h H1 e _ fun vs H2 e2 hvs => ⟨by rw [hvs.len]; exact sz_of hl, fun p hp => q _ _ (e2.trans (Ex.new hp)) (.tup upd_same (hvs.mono (Ex.new hp)))⟩
theorem evd_lst (h : EvDA tas σ H ds) (hl : ds.length ≤ 100000) : EvD (tLst tas) σ H (.list ds) := fun H1 e Q q => h H1 e _ fun vs H2 e2 hvs => ⟨by rw [hvs.len]; exact sz_of hl, fun p hp => q _ _ (e2.trans (Ex.new hp)) (.lst upd_same (hvs.mono (Ex.new hp)))⟩
theorem ev_eqD (ha : EvD ta σ H d) (hb : EvD tb σ H e') (s1 : SeqAt.shaped d = true) (s2 : SeqAt.shaped e' = true) : Ev (tOp (rEqD K) ta tb) σ H (.bl (PyData.eqv d e')) := fun H1 e Q q =>
  ha H1 e _ fun v H2 e2 hv => hb H2 (e.trans e2) _ fun w H3 e3 hw => ⟨d, e', (hv.mono e3).dp, hw.dp, s1, s2, q H3 (e2.trans e3)⟩
theorem ev_neD (ha : EvD ta σ H d) (hb : EvD tb σ H e') (s1 : SeqAt.shaped d = true) (s2 : SeqAt.shaped e' = true) : Ev (tOp (rNeD K) ta tb) σ H (.bl (!PyData.eqv d e')) := fun H1 e Q q =>
  ha H1 e _ fun v H2 e2 hv => hb H2 (e.trans e2) _ fun w H3 e3 hw => ⟨d, e', (hv.mono e3).dp, hw.dp, s1, s2, q H3 (e2.trans e3)⟩
theorem evd_ifE {b : Bool} (h : EvT t σ H b) (h1 : b = true → EvD ta σ H d) (h2 : b = false → EvD tb σ H d) : EvD (tIf t ta tb) σ H d := fun H1 e Q q => h H1 e _ fun H2 e2 => by
  cases b with
  | true =>
    show ta σ H2 Q
    exact h1 rfl H2 (e.trans e2) Q fun v H3 e3 hv => q v H3 (e2.trans e3) hv
  | false =>
    show tb σ H2 Q
    exact h2 rfl H2 (e.trans e2) Q fun v H3 e3 hv => q v H3 (e2.trans e3) hv
theorem evd_call {sp : Sp} {E : XK} {vs : List V} (h : EvA tas σ H vs) (hs : ∀ H1, Ex H H1 → ∀ (Q : VK), RtD H1 d Q → ∀ E, sp vs H1 Q E) : EvD (tCall sp [] E tas) σ H d := fun H1 e Q q => h H1 e _ fun H2 e2 => by
  rw [List.append_nil]
  exact hs H2 (e.trans e2) Q (fun v H3 e3 hv => q v H3 (e2.trans e3) hv) E
theorem evd_callD {sp : Sp} {E : XK} {es : List PyData} (h : EvDA tas σ H es) (hs : ∀ H1 vs, Ex H H1 → DtA H1 vs es → ∀ (Q : VK), RtD H1 d Q → ∀ E, sp vs H1 Q E) : EvD (tCall sp [] E tas) σ H d := fun H1 e Q q => h H1 e _ fun vs H2 e2 hvs => by
  rw [List.append_nil]
  exact hs H2 vs (e.trans e2) hvs Q (fun v H3 e3 hv => q v H3 (e2.trans e3) hv) E
theorem s_retD (h : EvD te σ H d) (k : RtD H d D.rt) : tRet te D σ H := h H (Ex.refl H) _ fun v H1 e hv => k v H1 e hv
theorem s_asgD {i : Nat} (h : EvD te σ H d) (k : ∀ v H1, Ex H H1 → Dt H1 v d → D.nx (σ.set i (some v)) H1) : tAsg te (gName i) D σ H := h H (Ex.refl H) _ fun v H1 e hv => k v H1 e hv
theorem q_asgD {i : Nat} (h : EvD te σ H d) (k : ∀ v H1, Ex H H1 → Dt H1 v d → tz D (σ.set i (some v)) H1) : tSeq (tAsg te (gName i)) tz D σ H := s_asgD (D := { D with nx := tz D }) h k
theorem evd_ixT {p : Addr} {xs : List V} {i : Nat} {j : Int} (ha : Ev ta σ H (.ref p)) (hp : H p = some (.tup xs)) (hx : DtA H xs ds) (hb : Ev tb σ H (.int j)) (hj : j = (i : Int)) (hd : ds[i]? = some d) : EvD (tOp (rIxT K) ta tb) σ H d := by
  obtain ⟨v, hv, hdv⟩ := hx.get i d hd
  subst hj
  exact evd_of (ev_op ha hb (rv_ixT (st_of hp) (atI_nat hv))) hdv
theorem evd_ixL {p : Addr} {xs : List V} {i : Nat} {j : Int} (ha : Ev ta σ H (.ref p)) (hp : H p = some (.lst xs)) (hx : DtA H xs ds) (hb : Ev tb σ H (.int j)) (hj : j = (i : Int)) (hd : ds[i]? = some d) : EvD (tOp (rIxL K) ta tb) σ H d := by
  obtain ⟨v, hv, hdv⟩ := hx.get i d hd
  subst hj
  exact evd_of (ev_op ha hb (rv_ixL (sq_of hp) (atI_nat hv))) hdv
end
/-- strings as data -/
def okS (l : List Nat) : Bool := l.all fun c => decide (c < 1114112)
theorem canS {l : List Nat} (h : okS l = true) : PyData.canLay0 (.str (S l)) = true := by
  unfold PyData.canLay0 PyData.strOk
  rw [show (S l).cps = l.toArray from rfl]
  simpa [okS] using h
theorem eqv_str (a b : List Nat) : PyData.eqv (.str (S a)) (.str (S b)) = decide (a = b) := by
  unfold PyData.eqv
  by_cases h : a = b
  · subst h
    simp
  · rw [decide_eq_false h]
    exact beq_eq_false_iff_ne.mpr fun z => h (S_inj z)
end Kn
/-! ### sorted texts -/
namespace Kn
open PySem PySem.Spec PyProof.Rows L2 Evl SX
def leS (a b : Str) : Prop := a.cps.toList ≤ b.cps.toList
theorem rising_pw : ∀ (r : List Str) (x : Str), risingS x r = true → List.Pairwise leS (x :: r)
  | [], x, _ => by simp
  | y :: r, x, h => by
    unfold risingS at h
    rw [Bool.and_eq_true] at h
    have hxy : leS x y := List.not_lt.mp fun z => by
      have h1 := h.1
      rw [PyProof.Rows.ltCps_eq, decide_eq_true z] at h1
      cases h1
    have ih := rising_pw r y h.2
    refine List.pairwise_cons.mpr ⟨fun z hz => ?_, ih⟩
    rcases List.mem_cons.mp hz with e | e
    · rw [e]
      exact hxy
    · exact List.le_trans hxy ((List.pairwise_cons.mp ih).1 z e)
theorem sorted_pw {l : List Str} (h : sortedS l = true) : List.Pairwise leS l := by
  cases l with
  | nil => exact .nil
  | cons x r => exact rising_pw r x h
theorem sorted_uniq {l m : List Str} (h1 : sortedS l = true) (h2 : sortedS m = true) (p : l.Perm m) : l = m :=
  List.Perm.eq_of_pairwise (le := leS) (fun a b _ _ x y => TL.ext_tl (List.le_antisymm x y)) (sorted_pw h1) (sorted_pw h2) p
end Kn
namespace Kn
open PySem PySem.Spec PyProof.Rows L2 Evl SX
section
variable {K : PySem.W.Frag} {σ : L2.St} {H H' : Hp} {ta tb td ty te : TE} {t u : TT} {x y z v : V} {d p : Addr} {kvs : List (Key × V)} {k : List Nat}
theorem ev_dnotin (h2 : Ev ty σ H (.str (S k))) (h1 : Ev td σ H (.ref d)) (hd : H d = some (.dK kvs)) : Ev (tDNotIn ty td) σ H (.bl (!(valV kvs (Sum.inr (S k))).isSome)) := fun H1 e Q q =>
  h2 H1 e _ fun H2 e2 => h1 H2 (e.trans e2) _ fun H3 e3 => ⟨d, _, rfl, DGet.k (k := (Sum.inr (S k) : Key)) (((e.trans e2).trans e3) _ _ hd), q H3 (e2.trans e3)⟩
theorem et_dnotin (h2 : Ev ty σ H (.str (S k))) (h1 : Ev td σ H (.ref d)) (hd : H d = some (.dK kvs)) : EvT (tB (tDNotIn ty td)) σ H (!(valV kvs (Sum.inr (S k))).isSome) := et_B (ev_dnotin h2 h1 hd)
/-- text * int -/
theorem rv_mulS {l : List Nat} {n : Nat} (hn : n ≤ 100000) (hl : l.length ≤ 100) : RV rMulS (.str (S l)) (.int (n : Int)) H (.str (S (List.replicate n l).flatten)) := fun H1 _ _ q => ⟨l, n, rfl, rfl, hn, hl, q H1 (Ex.refl H1)⟩
theorem flat_one (n c : Nat) : (List.replicate n [c]).flatten = List.replicate n c := by
  induction n with
  | zero => rfl
  | succ n ih => rw [List.replicate_succ, List.flatten_cons, ih, List.replicate_succ]; rfl
theorem ev_mul1 {s : Str} {c n : Nat} {i : Int} (hs : s.cps.toList = [c]) (h : Ev te σ H (.int i)) (hi : i = (n : Int)) (hn : n ≤ 100000) : Ev (tOp rMulS (tC (.str s)) te) σ H (.str (S (List.replicate n c))) := by
  rw [← flat_one]
  subst hi
  exact ev_op (ev_cS hs) h (rv_mulS hn (by show 1 ≤ 100; decide))
end
end Kn
namespace Kn
open PySem PySem.Spec PyProof.Rows L2 Evl SX
section
variable {K : PySem.W.Frag} {i : Nat} {Wout : WX} {D : Ends} {c cls : Value} {ts : Addr → Value → Option Addr → TS} {l : List (Value × (Addr → Value → Option Addr → TS))} {d : Option Addr} {σ : L2.St} {H : Hp}
theorem many_hit (h : PySem.W.exmOne K cls c = some true) (k : ∀ a, H a = none → ts a cls d { nx := fun σ' H' => D.nx (σ'.set i none) H', rt := D.rt, bk := fun σ' H' => D.bk (σ'.set i none) H', ct := fun σ' H' => D.ct (σ'.set i none) H' } (σ.set i (some (.ref a))) H) :
    wManyAs K i Wout D ((c, ts) :: l) cls d σ H := ⟨true, h, (fun _ a na => k a na), (fun z => nomatch z)⟩
theorem many_skip (h : PySem.W.exmOne K cls c = some false) (k : wManyAs K i Wout D l cls d σ H) : wManyAs K i Wout D ((c, ts) :: l) cls d σ H := ⟨false, h, (fun z => nomatch z), fun _ => k⟩
theorem as_hit (h : PySem.W.exmOne K cls c = some true) (k : ∀ a, H a = none → ts a cls d { nx := fun σ' H' => D.nx (σ'.set i none) H', rt := D.rt, bk := fun σ' H' => D.bk (σ'.set i none) H', ct := fun σ' H' => D.ct (σ'.set i none) H' } (σ.set i (some (.ref a))) H) :
    wAs K c i ts Wout D cls d σ H := ⟨true, h, (fun _ a na => k a na), (fun z => nomatch z)⟩
end
end Kn
namespace Kn
open PySem PySem.Spec PyProof.Rows L2 Evl SX
mutual
theorem Dt.tups {H H1 : Hp} (e : ∀ q xs, H q = some (.tup xs) → H1 q = some (.tup xs)) : ∀ {v : V} {d : PyData}, Dt H v d → noL d = true → Dt H1 v d
  | _, _, .non, _ => .non
  | _, _, .bl b, _ => .bl b
  | _, _, .int i, _ => .int i
  | _, _, .str x, _ => .str x
  | _, _, .lst _ _, n => by
    unfold noL at n
    cases n
  | _, _, .tup h r, n => by
    unfold noL at n
    exact .tup (e _ _ h) (DtA.tups e r n)
theorem DtA.tups {H H1 : Hp} (e : ∀ q xs, H q = some (.tup xs) → H1 q = some (.tup xs)) : ∀ {vs : List V} {ds : List PyData}, DtA H vs ds → noLA ds = true → DtA H1 vs ds
  | _, _, .nil, _ => .nil
  | _, _, .cons h r, n => by
    unfold noLA at n
    rw [Bool.and_eq_true] at n
    exact .cons (Dt.tups e h n.1) (DtA.tups e r n.2)
end
end Kn
namespace Kn
open PySem PySem.Spec PyProof.Rows L2 Evl SX
theorem Paired.unmap {α β γ : Type} {F : α → γ → Prop} {u : β → γ} : ∀ {as : List α} {bs : List β}, Paired F as (bs.map u) → Paired (fun a b => F a (u b)) as bs
  | _, [], .nil => .nil
  | _, b :: bs, .cons h t => .cons h (Paired.unmap t)
end Kn
/-! ### sorted(d), text keys, any number -/
namespace Kn
open PySem PySem.Spec PyProof.Rows L2 Evl SX
def rSortDA (K : PySem.W.Frag) : List V → Hp → VK → Prop := fun xs H Q => ∃ (a : Addr) (kvs : List (Key × V)) (ks : List Str), xs = [.ref a] ∧ Rd H a (.dK kvs) ∧ kvs.map (·.1) = ks.map Sum.inr ∧ ks.length ≤ 100000 ∧ ∀ ys p, ys.Perm ks → sortedS ys = true → H p = none → Q (.ref p) (L2.upd H p (.lst (ys.map V.str)))
theorem cr_sortDA {X : Cx} (hcalm : X.calm = true) : CallR X (.builtin "sorted") (rSortDA X.K) := by
  intro pins s σ H xs us Q I r q
  obtain ⟨a, kvs, ks, ex, hd, hks, h64, q⟩ := q
  subst ex
  obtain ⟨u, eu, rx⟩ := vals1 r
  subst eu
  cases rx
  obtain ⟨z, lo, vs, rel, dd⟩ := dk_rd I.hok hd
  obtain ⟨ep, hat⟩ := dd.dictAt
  have hkeys : vs.map (·.1) = ks.map Sum.inr := rel.keys.symm.trans hks
  have hl : vs.length = ks.length := by
    have e := congrArg List.length hkeys
    rw [List.length_map, List.length_map] at e
    exact e
  have h16 : vs.length ≤ sizeLine := by rw [hl, sizeLine_eq]; omega
  refine Calls.call_function_entry PyProof.Rows.kind_sorted PyProof.Rows.plain_sorted PyProof.Rows.entry_sorted (PyProof.Rows.args_sorted1 _) ?_
  unfold Builtin.«sorted»
  refine wpAny_bind (m := checkCount "sorted" 1 1 _) (wpAny_pure ?_)
  refine wpAny_bind (PySem.W.kdu_collect (A := X.A.in1) (PySem.W.kdl_dict (knd := mixKind X.prog X.w) (kvs := vs) (ep := ep) lo) (I.ok.hd hcalm) hat h16 fun h' tk acc hk hacc => ?_)
  have hal : acc.toList.length = ks.length := by rw [Array.length_toList, hacc.1, hl]
  have hS : StrsAre acc.toList ks := strs_at hal fun j v e => by
    obtain ⟨k, x, e1, e2⟩ := hacc.2 j v (by rw [← Array.getElem?_toList]; exact e)
    have e3 : (vs.map (·.1))[j]? = some k := by rw [List.getElem?_map, e1]; all_goals rfl
    rw [hkeys, List.getElem?_map] at e3
    cases e4 : ks[j]? with
    | none => rw [e4] at e3; cases e3
    | some y =>
      rw [e4] at e3
      have e5 : Sum.inr y = k := Option.some.inj e3
      subst e5
      obtain ⟨t, ev⟩ := Value.isStrOf_shape (x := y) (v := v) e2
      exact ⟨y, t, rfl, ev⟩
  have I1 : Inv X pins σ H { s with heap := h', toks := tk } := I.kept hk
  refine wpAny_bind (wpAny_newList ?_ (by rw [hal, sizeLine_eq]; omega))
  have hoL : (h'.push (seqObj "list" acc.toList.toArray 0)).get? h'.objs.size = some (seqObj "list" acc.toList.toArray 0) := Heap.get?_push_size _ rfl
  show wpAny _ _ _ _ _ { s with heap := h'.push (seqObj "list" acc.toList.toArray 0), toks := tk }
  refine wpAny_bind (wpAny_holding (wpAny_call_entry PyProof.Rows.slot_list_sort ⟨_, hoL, rfl⟩ PyProof.Rows.entry_list_sort
    (list_sort_treeKAny strKind_oneLt (s := { s with heap := h'.push (seqObj "list" acc.toList.toArray 0), toks := tk }) hoL hS.keysOf (fun v₁ v₂ rest e => keyKind_strs (by rw [← e]; exact hS)) (by rw [hal, sizeLine_eq]; omega) fun st' hp hs => ⟨_, rfl, ?_⟩)
    (PyProof.Rows.args_list_sort _)))
  obtain ⟨ys, g1, g2, g3⟩ := sorted_out_str hS hp hs
  obtain ⟨e', he'⟩ := PyProof.Rows.sortedHeap_at (vs := acc.toList) (out := (arrOf st').map (·.2)) hoL
  have hlen : (ys.map V.str).length ≤ sizeLine := by
    rw [List.length_map, g2.length_eq]
    exact Evl.sz_of h64
  refine wpAny_pure ⟨_, rfl, .ref h'.objs.size, L2.upd H h'.objs.size (.lst (ys.map V.str)), I1.laid (t' := tk) (fun b u e => ?_) (Nat.le_refl _)
    (show ObjOk X.prog X.w _ _ _ (.lst (ys.map V.str)) from ⟨hlen, ((arrOf st').map (·.2)).toList, e', vals_of_strs g1, by rw [Array.toArray_toList]; exact he'⟩), rfl, q ys _ g2 g3 (I1.hok.fresh (Nat.le_refl _))⟩
  have hb : b < h'.objs.size := Heap.lt_size e
  rw [PyProof.Rows.sortedHeap_old (Nat.ne_of_lt hb) (by rw [size_push']; exact Nat.lt_succ_of_lt hb)]
  exact Heap.get?_push_of_some _ e
end Kn
namespace Kn
open PySem PySem.Spec PyProof.Rows L2 Evl SX
def rLenD : List V → Hp → VK → Prop := fun xs H Q => ∃ d kvs, xs = [.ref d] ∧ H d = some (.dK kvs) ∧ Q (.int kvs.length) H
theorem cr_lenD {X : Cx} : CallR X (.builtin "len") rLenD := call_lenD
theorem ev_lenD {σ : L2.St} {H : Hp} {td : TE} {d : Addr} {kvs : List (Key × V)} (h : Ev td σ H (.ref d)) (hd : H d = some (.dK kvs)) : Ev (tCB rLenD (tCons td tNil)) σ H (.int (kvs.length : Int)) := fun H1 e Q q => h H1 e _ fun H2 e2 => ⟨d, kvs, rfl, (e.trans e2) _ _ hd, q H2 e2⟩
end Kn
namespace Kn
open PySem PySem.Spec PyProof.Rows L2 Evl SX
section
variable {K : PySem.W.Frag} {σ : L2.St} {H : Hp} {te : TE}
/-- n % m, n // m of naturals; a sign and a number -/
theorem ev_mod {n m : Nat} {k : Int} (h : Ev te σ H (.int (n : Int))) (hk : k = (m : Int)) (hm : 0 < m) : Ev (tOp (rI (fun _ j => 0 < j) fun i j => .int (i % j)) te (tC (.int k))) σ H (.int ((n % m : Nat) : Int)) := by
  subst hk
  rw [Int.natCast_emod]
  exact ev_op h ev_c (rv_mod (by omega))
theorem ev_div {n m : Nat} {k : Int} (h : Ev te σ H (.int (n : Int))) (hk : k = (m : Int)) (hm : 0 < m ∧ m < 1073741824) : Ev (tOp (rI CDiv fun i j => .int (i / j)) te (tC (.int k))) σ H (.int ((n / m : Nat) : Int)) := by
  subst hk
  rw [Int.natCast_ediv]
  exact ev_op h ev_c (rv_fdiv ⟨by omega, by omega⟩)
theorem ev_nm {s : Str} {n : Nat} {c : Nat} (hs : s.cps.toList = [c]) (hn : n < 1000) (h : Ev te σ H (.int (n : Int))) : Ev (tOp rAddS (tC (.str s)) (tCB rStrInt (tCons te tNil))) σ H (.str (S ([c] ++ TL.numL n))) := by
  have hl : (TL.numL n).length ≤ 3 := by
    have z : ∀ m < 1000, (TL.numL m).length ≤ 3 := by decide +kernel
    exact z n hn
  exact ev_op (ev_cS hs) (ev_strInt h hn) (rv_addS (by rw [List.length_singleton]; omega))
theorem et_eqN {n m : Nat} {k : Int} (h : Ev te σ H (.int (n : Int))) (hk : k = (m : Int)) : EvT (tTest (tOp rEq te (tC (.int k)))) σ H (decide (n = m)) := by
  subst hk
  exact et_is (et_test (ev_op h ev_c rv_eqI)) (by rw [decide_eq_decide]; omega)
theorem ev_eqN {n m : Nat} {k : Int} (h : Ev te σ H (.int (n : Int))) (hk : k = (m : Int)) : Ev (tOp rEq te (tC (.int k))) σ H (.bl (decide (n = m))) := by
  subst hk
  exact ev_is (ev_op h ev_c rv_eqI) (by rw [show decide ((n : Int) = (m : Int)) = decide (n = m) from by rw [decide_eq_decide]; omega])
theorem et_ltN {n m : Nat} {k : Int} (h : Ev te σ H (.int (n : Int))) (hk : k = (m : Int)) : EvT (tTest (tOp (rI0 fun i j => .bl (decide (i < j))) te (tC (.int k)))) σ H (decide (n < m)) := by
  subst hk
  exact et_is (et_test (ev_op h ev_c rv_lt)) (by rw [decide_eq_decide]; omega)
end
theorem shaped_tup {ds : List PyData} (h : PyData.canLayAll0 ds = true) (hd : PyData.depth (.tuple ds) ≤ 64) : SeqAt.shaped (.tuple ds) = true := by
  show (PyData.canLayAll0 ds && decide (PyData.depth (.tuple ds) ≤ 64)) = true
  rw [h, decide_eq_true hd]
  rfl
theorem shaped_lst {ds : List PyData} (h : PyData.canLayAll0 ds = true) (hd : PyData.depth (.list ds) ≤ 64) : SeqAt.shaped (.list ds) = true := by
  show (PyData.canLayAll0 ds && decide (PyData.depth (.list ds) ≤ 64)) = true
  rw [h, decide_eq_true hd]
  rfl
theorem can_cons {d : PyData} {ds : List PyData} (h : PyData.canLay0 d = true) (r : PyData.canLayAll0 ds = true) : PyData.canLayAll0 (d :: ds) = true := by
  show (PyData.canLay0 d && PyData.canLayAll0 ds) = true
  rw [h, r]
  rfl
theorem can_nil : PyData.canLayAll0 [] = true := rfl
theorem eqv_self {d : PyData} (h : SeqAt.shaped d = true) : PyData.eqv d d = true := SeqAt.eqv_refl _ (SeqAt.canLay_of_shaped h)
theorem canL_strs : ∀ {ys : List Str}, (∀ y ∈ ys, okS y.cps.toList = true) → PyData.canLayAll0 (ys.map .str) = true
  | [], _ => rfl
  | y :: r, h => by
    have e : y = S y.cps.toList := by
      refine TL.ext_tl ?_
      rfl
    rw [List.map_cons]
    refine can_cons ?_ (canL_strs fun z hz => h z (List.mem_cons_of_mem _ hz))
    rw [e]
    exact canS (h y List.mem_cons_self)
theorem depth_strs : ∀ ys : List Str, PyData.depthAll (ys.map .str) = 0
  | [] => rfl
  | y :: r => by
    show max 0 (PyData.depthAll (r.map .str)) = 0
    rw [depth_strs r]
    rfl
theorem shaped_strs {ys : List Str} (h : ∀ y ∈ ys, okS y.cps.toList = true) : SeqAt.shaped (.list (ys.map .str)) = true := by
  show (PyData.canLayAll0 (ys.map .str) && decide (PyData.depthAll (ys.map .str) + 1 ≤ 64)) = true
  rw [canL_strs h, depth_strs]
  rfl
theorem dta_strs {H : Hp} : ∀ ys : List Str, DtA H (ys.map V.str) (ys.map .str)
  | [] => .nil
  | y :: r => .cons (.str y) (dta_strs r)
/-- the part of a try that returns (word, o.m(..)) -/
theorem done_ret {C p dx : Addr} {m : Str} {sp : Sp} {W : WX} {fs : List (Str × V)} {σ : L2.St} {H : Hp} {D : Ends} {tA : TA} {vs : List V} {word : Str} (hσ : σ[0]? = some (some (.ref p))) (ho : H p = some (.ins C dx fs)) (hm : fs.lookup m = none) (hA : EvA tA σ H vs)
    (hs : ∀ H1, Ex H H1 → sp (.ref p :: vs) H1 (fun v H2 => [V.str word, v].length ≤ sizeLine ∧ ∀ q, H2 q = none → D.rt (.ref q) (L2.upd H2 q (.tup [.str word, v]))) (WE W σ)) :
    tRet (tTup (tCons (tC (.str word)) (tCons (tMethX C m sp (WE W) (tVar 0) tA) tNil))) D σ H :=
  ⟨_, hσ, p, dx, fs, rfl, ho, hm, hA H (Ex.refl _) _ fun H1 e1 => hs H1 e1⟩
end Kn
/-! ### a dict of the module with text keys: what it holds at each key -/
namespace Kn
open PySem PySem.Spec PyProof.Rows L2 Evl SX
/-- the entries as they stand: keys and values -/
def wdLook (es : List (Str × V)) (z : Str) : Option V := (es.find? fun e => decide (e.1 = z)).map (·.2)
structure WD (K : PySem.W.Frag) (w : World) (mg : Str → Option Value) (x : Str) (D : Addr) (f : List (Str × V)) : Prop where
  mg : mg x = some (.ref D)
  ex : ∃ es n, KDict K w D es n
  at_ : ∀ z, ∃ r, PySem.W.nsIn K D z = some r ∧ ((wdLook f z = none ∧ r = none) ∨ ∃ v u, wdLook f z = some v ∧ r = some u ∧ RelV v u)
inductive EntsAre : List DictEntry → List (Str × V) → Prop
  | nil : EntsAre [] []
  | cons {e : DictEntry} {es : List DictEntry} {x : Str} {v : V} {f : List (Str × V)} (hk : ∃ t, e.key = .str x t) (hv : RelV v e.val) (r : EntsAre es f) : EntsAre (e :: es) ((x, v) :: f)
theorem EntsAre.find : ∀ {es : List DictEntry} {f : List (Str × V)}, EntsAre es f → ∀ z : Str, ((es.find? (·.key.isStr z)) = none ∧ wdLook f z = none ∧ es.any (·.refKey) = false) ∨ ∃ e v, es.find? (·.key.isStr z) = some e ∧ wdLook f z = some v ∧ RelV v e.val
  | _, _, .nil, z => .inl ⟨rfl, rfl, rfl⟩
  | _, _, .cons (e := e) (es := es) (x := x) (v := v) (f := f) ⟨t, hk⟩ hv r, z => by
    unfold wdLook
    rw [List.find?_cons, List.find?_cons]
    have h1 : e.key.isStr z = decide (x = z) := by
      rw [hk]
      show (x == z) = decide (x = z)
      by_cases h : x = z
      · rw [h, decide_eq_true rfl]
        exact beq_self_eq_true z
      · rw [decide_eq_false h]
        exact beq_eq_false_iff_ne.mpr h
    rw [h1]
    by_cases h : x = z
    · rw [decide_eq_true h]
      exact .inr ⟨e, v, rfl, rfl, hv⟩
    · rw [decide_eq_false h]
      rcases EntsAre.find r z with ⟨a, b, c⟩ | ⟨e2, v2, a, b, c⟩
      · refine .inl ⟨a, b, ?_⟩
        rw [List.any_cons, c, Bool.or_false]
        unfold DictEntry.refKey
        rw [hk]
      · exact .inr ⟨e2, v2, a, b, c⟩
theorem wd_of {K : PySem.W.Frag} {w : World} {mg : Str → Option Value} {x : Str} {D : Addr} {es : Array DictEntry} {n : Nat} {f : List (Str × V)} (g : mg x = some (.ref D)) (h : K.lookup D = some ⟨.type "dict", none, .dict es n, #[]⟩) (low : (D == sysModules) = false) (lit : PySem.W.KeysLit w.params es.toList) (ea : EntsAre es.toList f) : WD K w mg x D f :=
  ⟨g, ⟨es, n, h, lit, low⟩, fun z => by
    unfold PySem.W.nsIn
    rw [h]
    dsimp only
    rcases ea.find z with ⟨a, b, c⟩ | ⟨e, v, a, b, c⟩
    · rw [a, c]
      exact ⟨none, rfl, .inl ⟨b, rfl⟩⟩
    · rw [a]
      exact ⟨some e.val, rfl, .inr ⟨v, _, b, rfl, c⟩⟩⟩
def rWIn (D : Addr) (f : List (Str × V)) : R2 := fun x y H Q => ∃ z : Str, x = .str z ∧ y = .ref D ∧ Q (.bl (wdLook f z).isSome) H
def rWNin (D : Addr) (f : List (Str × V)) : R2 := fun x y H Q => ∃ z : Str, x = .str z ∧ y = .ref D ∧ Q (.bl (!(wdLook f z).isSome)) H
def rIxW (D : Addr) (f : List (Str × V)) : R2 := fun x y H Q => ∃ (z : Str) (v : V), x = .ref D ∧ y = .str z ∧ wdLook f z = some v ∧ Q v H
def tWGet2 (D : Addr) (f : List (Str × V)) (td ty tx : TE) : TE := fun σ H Q => td σ H fun x H1 => x = .ref D ∧ ty σ H1 fun y H2 => tx σ H2 fun d H3 => ∃ z : Str, y = .str z ∧ Q ((wdLook f z).getD d) H3
section
variable {X : Cx} {x : Str} {D : Addr} {f : List (Str × V)} {pos apos cpos : Pos} {o e e2 : Expr} {td ty tx : TE}
theorem pe_wd (W : WD X.K X.w X.mg x D f) (hg : Gl X x) (hd : (x == ("__debug__" : Str)) = false := by decide) : PE X (.Name x pos) (tC (.ref D)) := pe_glob hg W.mg rfl hd
theorem WD.same {K : PySem.W.Frag} {w : World} {mg : Str → Option Value} (W : WD K w mg x D f) (z : Str) : ∃ r, PySem.W.nsIn K D z = some r ∧ r.isSome = (wdLook f z).isSome := by
  obtain ⟨r, h, h2⟩ := W.at_ z
  refine ⟨r, h, ?_⟩
  rcases h2 with ⟨a, b⟩ | ⟨v, u, a, b, _⟩ <;> rw [a, b] <;> rfl
theorem op_in_wd (W : WD X.K X.w X.mg x D f) : OpR X (compareOp .In) (rWIn D f) := by
  intro pins s σ H x y v u Q I rx ry h
  obtain ⟨z, rfl, rfl, q⟩ := h
  obtain ⟨es, n, hD⟩ := W.ex
  obtain ⟨r, h1, h2⟩ := W.same z
  exact op_in_kd hD pins s σ H _ _ v u Q I rx ry ⟨z, r, rfl, rfl, h1, by rw [h2]; exact q⟩
theorem op_notIn_wd (W : WD X.K X.w X.mg x D f) : OpR X (compareOp .NotIn) (rWNin D f) := by
  intro pins s σ H x y v u Q I rx ry h
  obtain ⟨z, rfl, rfl, q⟩ := h
  obtain ⟨es, n, hD⟩ := W.ex
  obtain ⟨r, h1, h2⟩ := W.same z
  exact op_notIn_kd hD pins s σ H _ _ v u Q I rx ry ⟨z, r, rfl, rfl, h1, by rw [h2]; exact q⟩
theorem ix_wd (W : WD X.K X.w X.mg x D f) : IxR X (rIxW D f) := by
  intro value slice pins s σ H x y v u Q I rx ry h hs
  obtain ⟨z, v0, rfl, rfl, h0, q⟩ := h
  obtain ⟨es, n, hD⟩ := W.ex
  obtain ⟨r, h1, h2⟩ := W.at_ z
  rcases h2 with ⟨a, b⟩ | ⟨v1, u1, a, b, c⟩
  · rw [h0] at a
    cases a
  · rw [h0] at a
    cases Option.some.inj a
    subst b
    obtain rfl : v = Value.ref D := rx
    obtain ⟨t, rfl⟩ := (show ∃ t, u = Value.str z t from ry)
    have hm' := PySem.W.mapOf_K (prog := X.prog) (w := X.w) I.kIn hD.at_ hD.lit
    exact tail_any hm'.typeIs slot_dict_getitem.lookup (wpAny_getItem_of (PySem.strKind_is X.prog X.w z t) hm' (PySem.W.find_K hD.at_ h1) ⟨v0, H, I.tok _, c, q⟩) hs
theorem pe_wget2 (W : WD X.K X.w X.mg x D f) (ho : PE X o td) (he : PE X e ty) (hf : PE X e2 tx) (m : M2 X o "get" apos e e2 cpos) : PE X (.Call (.Attribute o "get" apos) [e, e2] [] cpos) (tWGet2 D f td ty tx) := by
  refine ⟨fun pins s σ H Q I h => ?_⟩
  obtain ⟨es, n, hD⟩ := W.ex
  refine wpAny_Call_method m.base m.few m.line PySem.F.plainAttrs_dict PySem.F.slot_dict_get PySem.F.type_dict_get (thn (ho.run pins s σ H _ I h) fun u s1 ⟨y1, H1, I1, rx, ex, q1⟩ => ?_)
  subst ex
  obtain rfl : u = Value.ref D := rx
  have hk := fun (h : Heap) (k : X.K.In h) => k _ _ hD.at_
  refine ⟨kd_type hD I1, fun b q => ?_, ?_⟩
  · cases q
    exact ⟨_, hk _ I1.kIn, rfl⟩
  rw [m.trees]
  refine Calls.callWith_builtin rfl (Calls.evalArgs_plain (Calls.spliced_cons (thn (he.run pins s1 σ H1 _ I1 q1) fun iv s2 ⟨y, H2, I2, ry, q2⟩ =>
    Calls.spliced_cons (thn (hf.run pins s2 σ H2 _ I2 q2) fun fv s3 ⟨d, H3, I3, rz, z, ey, q3⟩ => Calls.spliced_nil ?_))))
  subst ey
  obtain ⟨t, rfl⟩ := (show ∃ t, iv = Value.str z t from ry)
  obtain ⟨r, h1, h2⟩ := W.at_ z
  have hm' := PySem.W.mapOf_K (prog := X.prog) (w := X.w) I3.kIn hD.at_ hD.lit
  refine call_meetsIn PySem.F.slot_dict_get hm'.typeIs PySem.F.entry_dict_get (PySem.F.args_dict_get_3 _ _ _) (meets_dict_get_default (strKind X.prog X.w) D (PySem.strKind_is X.prog X.w z t) hD.low fv) ⟨_, hm', ?_⟩
  have hf1 := PySem.W.find_K hD.at_ h1
  rw [hf1]
  refine ⟨(wdLook f z).getD d, H3, I3.tok _, ?_, q3⟩
  rcases h2 with ⟨a, b⟩ | ⟨v1, u1, a, b, c⟩
  · rw [a, b]
    exact rz
  · rw [a, b]
    exact c
end
section
variable {σ : L2.St} {H : Hp} {ta tb tc : TE} {D : Addr} {f : List (Str × V)} {l : List Nat} {v : V}
theorem rv_win : RV (rWIn D f) (.str (S l)) (.ref D) H (.bl (wdLook f (S l)).isSome) := fun H1 _ _ q => ⟨S l, rfl, rfl, q H1 (Ex.refl H1)⟩
theorem rv_wnin : RV (rWNin D f) (.str (S l)) (.ref D) H (.bl (!(wdLook f (S l)).isSome)) := fun H1 _ _ q => ⟨S l, rfl, rfl, q H1 (Ex.refl H1)⟩
theorem rv_wix (h : wdLook f (S l) = some v) : RV (rIxW D f) (.ref D) (.str (S l)) H v := fun H1 _ _ q => ⟨S l, v, rfl, rfl, h, q H1 (Ex.refl H1)⟩
theorem ev_wget2 (ha : Ev ta σ H (.ref D)) (hb : Ev tb σ H (.str (S l))) (hc : Ev tc σ H v) : Ev (tWGet2 D f ta tb tc) σ H ((wdLook f (S l)).getD v) := fun H1 e Q q =>
  ha H1 e _ fun H2 e2 => ⟨rfl, hb H2 (e.trans e2) _ fun H3 e3 => hc H3 ((e.trans e2).trans e3) _ fun H4 e4 => ⟨S l, rfl, q H4 ((e2.trans e3).trans e4)⟩⟩
end
end Kn
namespace Kn
open PySem PySem.Spec PyProof.Rows L2 Evl SX
theorem num_len {n : Nat} (h : n < 10 ^ 9) : (TL.numL n).length ≤ 9 := by
  unfold TL.numL
  rw [List.length_map]
  exact (Nat.length_toDigits_le_iff (by decide) (by decide)).mpr h
theorem cutS_nat (l : List Nat) (a b : Nat) : cutS (S l) (some (a : Int)) (some (b : Int)) = S ((l.drop a).take (b - a)) := by
  unfold cutS
  rw [HT.sIx_nat, HT.sIx_nat]
  exact congrArg S (cut_nat l a b)
/-! ### lstrip, unpacking, raising passed on -/
def rLstripC : V → List V → Hp → VK → Prop := fun x xs H Q => ∃ a b, x = .str a ∧ xs = [.str b] ∧ a.length ≤ sizeLine ∧ Q (.str (Txt.lstripChars a b)) H
theorem mt_lstripC {X : Cx} : MtR X "str.lstrip" rLstripC := mt_lstripChars
theorem drop_tw (p : Nat → Bool) : ∀ l : List Nat, l.drop (l.takeWhile p).length = l.dropWhile p
  | [] => rfl
  | c :: r => by
    rw [List.takeWhile_cons, List.dropWhile_cons]
    cases h : p c with
    | true =>
      show (c :: r).drop ((r.takeWhile p).length + 1) = r.dropWhile p
      rw [List.drop_succ_cons]
      exact drop_tw p r
    | false => rfl
theorem lstrip_S (l : List Nat) (c : Nat) : Txt.lstripChars (S l) (S [c]) = S (l.dropWhile fun d => decide (d = c)) := by
  unfold Txt.lstripChars
  rw [PySem.W.stripBy_eq]
  refine TL.ext_tl ?_
  have hg : ∀ d, (S [c]).cps.contains d = decide (d = c) := fun d => by
    show (#[c] : Array Nat).contains d = _
    by_cases h : d = c
    · subst h; simp
    · simp [h]
  have e : (fun d => (S [c]).cps.contains d) = fun d => decide (d = c) := funext hg
  show (PySem.W.stripped (fun d => (S [c]).cps.contains d) true false (S l)).cps.toList = _
  rw [e]
  show (PySem.Builtin.Str.strSub (S l) (l.takeWhile fun d => decide (d = c)).length (S l).length).cps.toList = l.dropWhile fun d => decide (d = c)
  rw [S_len]
  have h1 := TL.tl_strSub (x := S l) (i := (l.takeWhile fun d => decide (d = c)).length) (j := l.length)
  refine h1.trans ?_
  show (l.drop _).take (l.length - _) = _
  rw [List.take_of_length_le (by rw [List.length_drop]; exact Nat.le_refl _)]
  exact drop_tw _ l
section
variable {K : PySem.W.Frag} {σ : L2.St} {H H' : Hp} {ta tb te : TE} {v1 v2 v3 : V} {a : Addr} {i j k : Nat} {Q : L2.St → Hp → Prop}
theorem ev_lstrip {l : List Nat} {c : Nat} (ha : Ev ta σ H (.str (S l))) (hb : Ev tb σ H (.str (S [c]))) (hl : l.length ≤ 100000) : Ev (tM1 rLstripC ta tb) σ H (.str (S (l.dropWhile fun d => decide (d = c)))) := fun H1 e Q q =>
  ha H1 e _ fun H2 e2 => ⟨⟨_, rfl⟩, hb H2 (e.trans e2) _ fun H3 e3 => ⟨S l, S [c], rfl, rfl, by rw [S_len]; exact sz_of hl, by rw [lstrip_S]; exact q H3 (e2.trans e3)⟩⟩
theorem unp2 (h : H a = some (.tup [v1, v2])) (q : Q ((σ.set i (some v1)).set j (some v2)) H) : gTup K 2 (gCons (gName i) (gCons (gName j) gNil)) (.ref a) σ H Q :=
  ⟨a, _, rfl, st_of h, rfl, v1, _, rfl, v2, _, rfl, rfl, q⟩
theorem unp3 (h : H a = some (.tup [v1, v2, v3])) (q : Q (((σ.set i (some v1)).set j (some v2)).set k (some v3)) H) : gTup K 3 (gCons (gName i) (gCons (gName j) (gCons (gName k) gNil))) (.ref a) σ H Q :=
  ⟨a, _, rfl, st_of h, rfl, v1, _, rfl, v2, _, rfl, v3, _, rfl, rfl, q⟩
/-- what is raised: an error of the class at C with these four fields -/
def Rz4 (H : Hp) (E : XK) (C : Addr) (p : List Nat) (n c : Nat) (r : List Nat) : Prop := ∀ d H', Ex H H' → H' d = some (.xd (fs4 p n c r)) → E (.ref C) (some d) H'
theorem Rz4.mono {E : XK} {C : Addr} {p r : List Nat} {n c : Nat} (h : Rz4 H E C p n c r) (e : Ex H H') : Rz4 H' E C p n c r := fun d H2 e2 hd => h d H2 (e.trans e2) hd
end
end Kn
namespace Kn
open PySem PySem.Spec PyProof.Rows L2 Evl SX
section
variable {σ : L2.St} {H H' : Hp} {W : WX} {sp : Sp} {tA : TA} {g : TG} {D : Ends} {tz : TS} {vs : List V}
/-- a call that may raise, its answer stored, returned, thrown away -/
theorem s_asgS (hA : EvA tA σ H vs) (k : ∀ H1, Ex H H1 → sp vs H1 (fun v H2 => g v σ H2 D.nx) (WE W σ)) : tAsg (tCallS sp (WE W) tA) g D σ H := hA H (Ex.refl _) _ fun H1 e1 => k H1 e1
theorem q_asgS (hA : EvA tA σ H vs) (k : ∀ H1, Ex H H1 → sp vs H1 (fun v H2 => g v σ H2 (tz D)) (WE W σ)) : tSeq (tAsg (tCallS sp (WE W) tA) g) tz D σ H := s_asgS (D := { D with nx := tz D }) hA k
theorem s_retS (hA : EvA tA σ H vs) (k : ∀ H1, Ex H H1 → sp vs H1 (fun v H2 => D.rt v H2) (WE W σ)) : tRet (tCallS sp (WE W) tA) D σ H := hA H (Ex.refl _) _ fun H1 e1 => k H1 e1
end
end Kn
namespace Kn
open PySem PySem.Spec PyProof.Rows L2 Evl SX
section
variable {K : PySem.W.Frag} {σ : L2.St} {H H' : Hp} {ta te : TE} {D : Ends} {tz : TS} {l : Addr} {xs : List V} {d : PyData}
theorem s_appD (hl : H l = some (.lst xs)) (ha : Ev ta σ H (.ref l)) (h : EvD te σ H d) (hz : xs.length < 100000) (k : ∀ v H1, Ex H H1 → Dt H1 v d → D.nx σ (L2.upd H1 l (.lst (xs ++ [v])))) :
    tDrop (tBM K "list" rAppend ta (tCons te tNil)) D σ H := ha H (Ex.refl H) _ fun H1 e1 =>
  ⟨Or.inl ⟨rfl, xs, sq_of (e1 l _ hl)⟩, h H1 e1 _ fun v H2 e2 hv => ⟨l, xs, v, rfl, rfl, e2 l _ (e1 l _ hl), sz_lt hz, k v H2 (e1.trans e2) hv⟩⟩
theorem q_appD (hl : H l = some (.lst xs)) (ha : Ev ta σ H (.ref l)) (h : EvD te σ H d) (hz : xs.length < 100000) (k : ∀ v H1, Ex H H1 → Dt H1 v d → tz D σ (L2.upd H1 l (.lst (xs ++ [v])))) :
    tSeq (tDrop (tBM K "list" rAppend ta (tCons te tNil))) tz D σ H := s_appD (D := { D with nx := tz D }) hl ha h hz k
theorem dta_app {v : V} {ds : List PyData} (hl : H l = some (.lst xs)) (hD : DtA H xs ds) (hv : Dt H v d) (h1 : noLA ds = true) (h2 : noL d = true) : DtA (L2.upd H l (.lst (xs ++ [v]))) (xs ++ [v]) (ds ++ [d]) :=
  DtA.snoc (hv.upd hl (fun _ z => nomatch z) h2) (hD.upd hl (fun _ z => nomatch z) h1)
theorem noLA_map {α : Type} {f : α → PyData} (h : ∀ x, noL (f x) = true) : ∀ l : List α, noLA (l.map f) = true
  | [] => by unfold noLA; rfl
  | x :: r => by
    rw [List.map_cons]
    unfold noLA
    rw [h x, noLA_map h r]
    rfl
end
end Kn
namespace Kn
open PySem PySem.Spec PyProof.Rows L2 Evl SX
/-! ### a token is out -/
section
variable {X : Cx} {a b c e o : Expr} {rest : List Expr} {ta tb te to : TE} {tc tA tB' : TT} {t u : TS} {sa sb : List Stmt} {pos apos : Pos}
theorem peb_int {i : Int} {j : Nat} : PEb X (.Constant (.int i) j pos) (tC (.int i)) := fun _ s _ H _ I h => wpAny_Constant_int ⟨by show 1 ≤ s.toks + 1; omega, .int i, H, I.tok _, ⟨_, rfl⟩, h⟩
theorem peb_opR {op : Operator} {r : R2} (ho : OpR X (binaryOp op) r) (ha : PE X a ta) (hb : PEb X b tb) : PEb X (.BinOp a op b pos) (tOp r ta tb) := by
  intro pins s σ H Q I h
  refine wpAny_BinOp (thn (ha.run pins s σ H _ I h) fun v s1 ⟨x, H1, I1, r1, q1⟩ => ?_)
  exact thn (hb pins s1 σ H1 _ I1 q1) fun u s2 ⟨h2, y, H2, I2, r2, q2⟩ => keep_tok h2 (ho pins s2 σ H2 x y v u Q I2 r1 r2 q2)
theorem peb_ix {r : R2} (hr : IxR X r) (ha : PE X a ta) (hb : PEb X b tb) (hs : PlainIx b) : PEb X (.Subscript a b pos) (tOp r ta tb) := by
  intro pins s σ H Q I h
  refine Subscript_ (thn (ha.run pins s σ H _ I h) fun v s1 ⟨x, H1, I1, r1, q1⟩ => ?_)
  exact thn (hb pins s1 σ H1 _ I1 q1) fun u s2 ⟨h2, y, H2, I2, r2, q2⟩ => keep_tok h2 (hr a b pins s2 σ H2 x y v u Q I2 r1 r2 q2 (hs _ _))
theorem pe_of_b {te : TE} (h : ∀ (pins : List (Addr × Obj)) (s : Shared) (σ : L2.St) (H : Hp) (Q : VK), Inv X pins σ H s → te σ H Q → wpAny (model X.prog X.w) X.A (eval e X.env) (EP X pins σ Q) X.xe s) : PE X e te := ⟨h⟩
/-- b.replace(..), where b's own text gives a token -/
theorem pe_replB {y z : Str} {j k : Nat} {c0 c1 : Pos} (ho : PEb X o to) (hyz : (y == z) = false := by decide)
    (hst : starEach [.Constant (.str y) j c0, .Constant (.str z) k c1] X.env = [(false, eval (.Constant (.str y) j c0) X.env), (false, eval (.Constant (.str z) k c1) X.env)] := by rfl)
    (hbase : attributeBase o "replace" X.env (eval o X.env) = eval o X.env := by rfl) (hline : (apos.endLine == pos.line) = true := by rfl) :
    PE X (.Call (.Attribute o "replace" apos) [.Constant (.str y) j c0, .Constant (.str z) k c1] [] pos) (CwR.tReplC to y z) := by
  refine ⟨fun pins s σ H Q I h => ?_⟩
  refine PySem.Call_method2 hbase hst hline (thn (ho pins s σ H _ I h) fun v s1 ⟨hk, v', H1, I1, r1, x, e1, hb, q⟩ => ?_)
  subst e1
  obtain ⟨tx, e2⟩ := r1
  subst e2
  refine ⟨"str", _, PySem.F.plainAttrs_str, PySem.F.slot_str_replace, PySem.F.type_str_replace, typeIs_str _ _ _, (fun _ e => nomatch e), Calls.callWith_builtin rfl (Calls.evalArgs_plain (Calls.spliced_cons ?_))⟩
  refine Calls.Constant_str (Calls.spliced_cons (Calls.Constant_str (Calls.spliced_nil ?_)))
  exact PySem.SC.replace (by show s1.toks ≠ 0; omega) (by show s1.toks + 1 ≠ 0; omega) (by show s1.toks ≠ s1.toks + 1; omega) hyz hb fun t' k => ⟨.str (Txt.replace x y z), H1, I1.tok k, ⟨t', rfl⟩, q⟩
def PTT (X : Cx) (c : Expr) (tc : TT) : Prop := ∀ (pins : List (Addr × Obj)) (s : Shared) (σ : L2.St) (H : Hp) (Q : Bool → Hp → Prop), 1 ≤ s.toks → Inv X pins σ H s → tc σ H Q → wpAny (model X.prog X.w) X.A (isTrue c X.env (eval c X.env)) (TP X pins σ Q) X.xe s
def PWT (X : Cx) (c : Expr) (tc : TT) : Prop := ∀ (whole : Sem Value) (pins : List (Addr × Obj)) (s : Shared) (σ : L2.St) (H : Hp) (Q : Bool → Hp → Prop), 1 ≤ s.toks → Inv X pins σ H s → tc σ H Q → wpAny (model X.prog X.w) X.A (isTrue c X.env whole) (TP X pins σ Q) X.xe s
theorem PWT.pt (h : PWT X c tc) : PTT X c tc := h _
theorem pet_ix {r : R2} (hr : IxR X r) (ha : L2.PET X a ta) (hb : PE X b tb) (hs : PlainIx b) : L2.PET X (.Subscript a b pos) (tOp r ta tb) := by
  intro pins s σ H Q h0 I h
  refine Subscript_ (thn (ha pins s σ H _ h0 I h) fun v s1 ⟨x, H1, I1, r1, q1⟩ => ?_)
  exact thn (hb.run pins s1 σ H1 _ I1 q1) fun u s2 ⟨y, H2, I2, r2, q2⟩ => hr a b pins s2 σ H2 x y v u Q I2 r1 r2 q2 (hs _ _)
theorem ptt_cmpR {op : CmpOp} {r : R2} (ho : OpR X (compareOp op) r) (ha : L2.PET X a ta) (hb : PE X b tb) (hm : behindInMarks op b = false) : PTT X (.Compare a [op] [b] pos) (tTest (tOp r ta tb)) := by
  intro pins s σ H Q h0 I h
  refine wpAny_isTrue_Compare1 (thn (ha pins s σ H _ h0 I h) fun v s1 ⟨x, H1, I1, r1, q1⟩ => thn (hb.run pins s1 σ H1 _ I1 q1) fun u s2 ⟨y, H2, I2, r2, q2⟩ =>
    thn (ho pins s2 σ H2 x y v u _ I2 r1 r2 q2) fun c s3 ⟨z, H3, I3, r3, k, e, q3⟩ => ?_) hm
  subst e
  cases r3
  exact wpAny_truthy_bool ⟨H3, I3, q3⟩
theorem ptw_or1 (ha : PTT X a tA) : PWT X (.BoolOp .Or [a] pos) tA := by
  intro wh pins s σ H Q h0 I h
  refine isTrue_or (thn (ha pins s σ H Q h0 I h) fun c s1 e => ?_)
  cases c with
  | false => exact isTrue_or_nil e
  | true => exact e
theorem ptw_or (ha : PTT X a tA) (hb : PWT X (.BoolOp .Or (b :: rest) pos) tB') : PWT X (.BoolOp .Or (a :: b :: rest) pos) (tOr tA tB') := by
  intro wh pins s σ H Q h0 I h
  refine isTrue_or (thn (keep_tok h0 (ha pins s σ H _ h0 I h)) fun c s1 ⟨h1, H1, I1, q1⟩ => ?_)
  cases c with
  | true => exact ⟨H1, I1, q1⟩
  | false => exact hb wh pins s1 σ H1 Q h1 I1 q1
theorem pst_ifT (hc : PTT X c tc) (ha : PSs X sa t) (hb : PSs X sb u) : L2.PST X (.If c sa sb pos) (tIfS tc t u) := by
  intro pins s σ H D h0 I h
  refine wpAny_If (thn (hc pins s σ H _ h0 I h) fun d s1 ⟨H1, I1, q1⟩ => ?_)
  cases d with
  | true => exact ha.run pins s1 σ H1 D I1 q1
  | false => exact hb.run pins s1 σ H1 D I1 q1
theorem psst_nox (h : L2.PSsT X.nox sa t) : L2.PSsT X sa t := fun pins s σ H D h0 I hw =>
  wpAny_mono (h pins s σ H D h0 (I.wish _) hw) (fun _ _ q => q.unwish) fun _ _ z => False.elim z
end
section
variable {P : Program} {w : World} {K : PySem.W.Frag} {mg : Str → Option Value} {base : Heap}
theorem okT {x qual : Str} {st : Stmt} {f : Addr} {fd : FuncData} {N ps : List Str} {k : Nat} {sp : Sp} (F : Fun K x qual st f fd) (S : FnScope N ps (defScope st)) (hnc : ∀ y ∈ (defScope st).names, y.2 ≠ .cell) (hps : 1 ≤ ps.length) (len : ∀ vs H Q E, sp vs H Q E → vs.length = ps.length)
    (hbody : ∀ (cdv : Value) (A : Around) (outer : List Env) (s : Shared) (H : Hp) (vs : List V) (Q : VK) (E : XK), Room k (A.deeper (envOfC qual (defScope st) s.heap.objs.size f cdv)) → sp vs H Q E →
      ∃ t, L2.PSsT (cxOf CX0 P w K mg base N qual (defScope st) f cdv A outer s H E).nox (defBody st) t ∧ t { nx := fun _ H' => Q .non H', rt := Q } (start N vs) H) : FnOk P w K mg base CX0 (k + 1) f fd ps sp := by
  obtain ⟨oc, od, kV, doc, pm, an, cdv, ct, osl, rfl, lk, hcd⟩ := F.ex
  refine fn_ofT lk hcd S hnc hps len fun A outer s H vs Q E hr hsp => ?_
  obtain ⟨t, h, q⟩ := hbody cdv A outer s H vs Q E hr hsp
  exact ⟨t, psst_nox h, q⟩
end
section
/-- a sign of a text put for others -/
def sub1 (c : Nat) (z l : List Nat) : List Nat := l.flatMap fun e => if e = c then z else [e]
theorem repl_any {c : Nat} {z : List Nat} : ∀ l : List Nat, StrLaws.replL [c] z l = sub1 c z l
  | [] => StrLaws.replL_nil
  | e :: r => by
    by_cases h : e = c
    · subst h
      rw [StrLaws.replL_hit (List.cons_ne_nil _ _) rfl, show (e :: r).drop [e].length = r from rfl, repl_any r]
      unfold sub1
      rw [List.flatMap_cons, if_pos rfl]
    · rw [StrLaws.replL_miss (y := [c]) (show ¬ (e :: r).take [c].length = [c] from fun z => h (List.cons.inj (show e :: r.take 0 = [c] from z)).1), repl_any r]
      unfold sub1
      rw [List.flatMap_cons, if_neg h]
      rfl
theorem replace_A {l z : List Nat} {c : Nat} : Txt.replace (S l) (S [c]) (S z) = S (sub1 c z l) := by
  refine TL.ext_tl ?_
  show (Txt.replace (S l) (S [c]) (S z)).cps.toList = _
  exact (StrLaws.replace_list (show 1 ≤ (S [c]).length from Nat.le_refl 1)).trans (repl_any l)
theorem ev_replA {σ : L2.St} {H : Hp} {ta : TE} {l z : List Nat} {s1 s2 : Str} {c : Nat} (ha : Ev ta σ H (.str (S l))) (h1 : s1 = S [c]) (h2 : s2 = S z) (hl : l.length ≤ 100000) (hz : z.length ≤ 8) : Ev (CwR.tReplC ta s1 s2) σ H (.str (S (sub1 c z l))) := fun H1 e Q q => by
  subst h1 h2
  refine ha H1 e _ fun H2 e2 => ⟨S l, rfl, ?_, ?_⟩
  · rw [S_len, S_len]
    have : (l.length + 1) * z.length ≤ 100001 * 8 := Nat.mul_le_mul (by omega) hz
    omega
  · rw [replace_A]
    exact q H2 e2
end
end Kn
namespace Kn
open PySem PySem.Spec PyProof.Rows L2 Evl SX
section
variable {X : Cx} {e : Expr} {te : TE} {pos : Pos}
/-- name = value, where the value wants a token -/
theorem pst_set {i : Nat} {x : Str} {pos' : Pos} (hN : X.N.Nodup) (hi : X.N[i]? = some x) (hx : Loc X.env.scope x) (he : L2.PET X e te) (hs : swapsWith e (some (.Name x pos')) pos.line X.env = pure false := by rfl) (hf : X.fn x = true ∨ X.env.scope.names.lookup x = some .local := by first | exact .inl rfl | exact .inr rfl | assumption) :
    L2.PST X (.Assign [.Name x pos'] e pos) (tAsg te (gName i)) := by
  intro pins s σ H D h0 I h
  refine wpAny_Assign_Name (thn (he pins s σ H _ h0 I h) fun v s1 ⟨y, H1, I1, r1, q1⟩ => ?_) hs
  exact store_ok I1 hN hi hx r1 (fun s2 I2 => ⟨_, H1, I2, q1⟩) hf
end
section
variable {σ : L2.St} {H : Hp} {W : WX} {sp : Sp} {tA : TA} {vs : List V} {d : PyData}
theorem q_dropS {D : Ends} {tz : TS} (hA : EvA tA σ H vs) (k : ∀ H1, Ex H H1 → sp vs H1 (fun _ H2 => tz D σ H2) (WE W σ)) : tSeq (tDrop (tCallS sp (WE W) tA)) tz D σ H := hA H (Ex.refl H) _ fun H1 e1 => k H1 e1
theorem s_dropS {D : Ends} (hA : EvA tA σ H vs) (k : ∀ H1, Ex H H1 → sp vs H1 (fun _ H2 => D.nx σ H2) (WE W σ)) : tDrop (tCallS sp (WE W) tA) D σ H := hA H (Ex.refl H) _ fun H1 e1 => k H1 e1
/-- a call that may raise and does not -/
theorem evd_callS (hA : EvA tA σ H vs) (k : ∀ H1, Ex H H1 → ∀ Q : VK, RtD H1 d Q → sp vs H1 Q (WE W σ)) : EvD (tCallS sp (WE W) tA) σ H d := fun H1 e Q q =>
  hA H1 e _ fun H2 e2 => k H2 (e.trans e2) _ fun v H3 e3 hv => q v H3 (e2.trans e3) hv
end
end Kn
namespace Kn
open PySem PySem.Spec PyProof.Rows L2 Evl SX
section
variable {K : PySem.W.Frag} {σ : L2.St} {H H' H1 : Hp} {te t1 t2 : TE}
/-- column, reason -/
def fs2 (c : Nat) (r : List Nat) : List (Str × V) := [("reason", .str (S r)), ("column", .int (c : Int))]
structure Nf2 (K : PySem.W.Frag) (C : Addr) : Prop where
  c : PySem.W.findIn K (.ref C) "column" = some none
  r : PySem.W.findIn K (.ref C) "reason" = some none
def Sm2 (c : Nat) (r : List Nat) : Prop := r.length ≤ 9000 ∧ c < 10 ^ 9
def sp_I2 (K : PySem.W.Frag) : Sp := fun vs H Q _ => ∃ (a C : Addr) (c : Nat) (r : List Nat), vs = [.ref a, .int (c : Int), .str (S r)] ∧ Sm2 c r ∧ H a = some (exo a C none) ∧ OexC K C ∧ Nf2 K C ∧
  ∀ dx H', H dx = none → dx ≠ a → XMade H H' a C dx (fs2 c r) → Q .non H'
theorem raise2 {W : WX} {C : Addr} {r : List Nat} {c : Nat} (oe : OexC K C) (nf : Nf2 K C) (hl : Sm2 c r) (h1 : Ev t1 σ H (.int (c : Int))) (h2 : Ev t2 σ H (.str (S r)))
    (hk : ∀ d H', Ex H H' → H' d = some (.xd (fs2 c r)) → W (.ref C) (some d) σ H') : tMkO C (sp_I2 K) [] (tCons t1 (tCons t2 tNil)) σ H (fun cls d H' => W cls d σ H') :=
  ea_cons h1 (ea_cons h2 ea_nil) H (Ex.refl _) _ fun H2 e2 => ⟨(by show 2 ≤ 1000; decide), fun a na => ⟨a, C, c, r, rfl, hl, upd_same, oe, nf, fun dx H' hdx ne m =>
    ⟨rfl, dx, _, m.1, m.2.1, upd_none hdx, xm_raise e2 na (upd_none hdx) m hk⟩⟩⟩
theorem init2_body {D : Ends} {a C : Addr} {r m : List Nat} {c : Nat} {tj : TE} {σ0 : L2.St} (hσ : σ0 = [some (.ref a), some (.int (c : Int)), some (.str (S r))]) (hj : Ev tj σ0 H (.str (S m))) (ha : H a = some (exo a C none)) (oe : OexC K C) (nf : Nf2 K C)
    (q : ∀ dx H', H dx = none → dx ≠ a → XMade H H' a C dx (fs2 c r) → D.nx σ0 H') : tSeq (tDrop (tVeI K (tCons (tVar 0) (tCons tj tNil)))) (tSeq (tOst K "column" (tVar 0) (tVar 1)) (tOst K "reason" (tVar 0) (tVar 2))) D σ0 H := by
  subst hσ
  refine q_beinit (ev_var rfl) hj oe ha fun H1 e1 => ?_
  refine ⟨_, rfl, _, rfl, a, C, rfl, oe, nf.c, .inl ⟨e1 _ _ ha, fun dx hd ne => ?_⟩⟩
  have m1 := xmade_new (C := C) (f := "column") (v := .int (c : Int)) e1 ne
  refine ⟨_, rfl, _, rfl, a, C, rfl, oe, nf.r, .inr ⟨dx, _, m1.1, m1.2.1, (by show 1 ≤ 900; decide), ?_⟩⟩
  exact q dx _ (fresh_back e1 hd) ne (m1.more (f := "reason") (v := .str (S r)) ne (Ex.refl _))
def Rz2 (H : Hp) (E : XK) (C : Addr) (c : Nat) (r : List Nat) : Prop := ∀ d H', Ex H H' → H' d = some (.xd (fs2 c r)) → E (.ref C) (some d) H'
theorem Rz2.mono {E : XK} {C : Addr} {r : List Nat} {c : Nat} (h : Rz2 H E C c r) (e : Ex H H') : Rz2 H' E C c r := fun d H2 e2 hd => h d H2 (e.trans e2) hd
theorem evd_tupOf {ta : TE} {p : Addr} {vs : List V} {ds : List PyData} (h : Ev ta σ H (.ref p)) (hp : H p = some (.lst vs)) (hd : DtA H vs ds) :
    EvD (tCB (fun xs H Q => ∃ p ys, xs = [.ref p] ∧ ((SqL K H p ys ∧ ∀ l, H l = none → Q (.ref l) (upd H l (.tup ys))) ∨ (SqT K H p ys ∧ Q (.ref p) H))) (tCons ta tNil)) σ H (.tuple ds) := fun H1 e Q q =>
  h H1 e _ fun H2 e2 => ⟨p, vs, rfl, .inl ⟨sq_of ((e.trans e2) _ _ hp), fun l hl => q _ _ (e2.trans (Ex.new hl)) (.tup upd_same ((hd.mono (e.trans e2)).mono (Ex.new hl)))⟩⟩
end
end Kn
/-! ### dead statements, defs with defaults, errors with one field of any kind, dicts with int keys -/
namespace Kn
open PySem PySem.Spec PyProof.Rows L2 Evl SX
theorem ps_dead {X : Cx} {st : Stmt} : PS X st (fun _ _ _ => False) := ⟨fun _ _ _ _ _ _ h => h.elim⟩
def rSortDI (K : PySem.W.Frag) : List V → Hp → VK → Prop := fun xs H Q => ∃ (a : Addr) (kvs : List (Key × V)) (ks : List Int), xs = [.ref a] ∧ Rd H a (.dK kvs) ∧ kvs.map (·.1) = ks.map Sum.inl ∧ ks.length < 64 ∧ ∀ (ys : List Int) (p : Addr), ys.Perm ks → ys.Pairwise (· ≤ ·) → H p = none → Q (.ref p) (upd H p (.lst (ys.map V.int)))
theorem cr_sortDI {X : Cx} (h : X.calm = true) : CallR X (.builtin "sorted") (rSortDI X.K) := call_sortedDI h
theorem cr_max2 {X : Cx} (h : X.calm = true) : CallR X (.builtin "max") Evl.rMax2 := call_max2 h
def rMn2 : List V → Hp → VK → Prop := fun xs H Q => ∃ i j : Int, xs = [.int i, .int j] ∧ Q (.int (if j < i then j else i)) H
theorem cr_min2 {X : Cx} (h : X.calm = true) : CallR X (.builtin "min") rMn2 := call_min2 h
/-- a class made by its name with its defaults -/
structure MkrD (P : Program) (w : World) (K : PySem.W.Frag) (mg : Str → Option Value) (base : Heap) (k : Nat) (x : Str) (C : Addr) (sp : Sp) (dvs : List V) : Prop where
  ex : ∃ (f : Addr) (fd : FuncData) (ps : List Str) (ds : List Value), Mk K C f ∧ FnOk P w K mg base CX0 k f fd ps sp ∧ mg x = some (.ref C) ∧ Binds K fd ps ds ∧ Vals dvs ds
theorem pe_mkrD0 {X : Cx} {k j : Nat} {C : Addr} {x : Str} {sp : Sp} {dvs : List V} {p pos : Pos} (c : MkrD X.prog X.w X.K X.mg X.base k x C sp dvs) (hr : Room j X.A) (hk : k + 1 ≤ j) (hg : Gl X x) (hdb : (x == ("__debug__" : Str)) = false := by decide) :
    PE X (.Call (.Name x p) [] [] pos) (tMake C sp dvs E0 tNil) := by
  obtain ⟨f, fd, ps, ds, M, F, hm, b, d⟩ := c.ex
  exact pe_make0 M F (hr.mono hk) hg hm b d pass0 hdb
theorem dfl_one {K : PySem.W.Frag} {T : Addr} {c : Value} {od : Option Addr} {n : Nat} {sl : Array (Option Value)} {u : Value} {v : V} (h : K.lookup T = some ⟨c, od, .seq #[u] n, sl⟩) (r : RelV v u) : DflV K (.ref T) [v] :=
  .inr ⟨by simp, T, _, [u], n, rfl, h, rfl, .cons r .nil⟩
section
variable {K : PySem.W.Frag} {σ : L2.St} {H H1 H' : Hp} {ta tb td ty te tv : TE} {D : Ends} {tz : TS} {a d C : Addr} {kvs : List (Key × V)} {k : Int} {v : V} {f : Str}
def sp_I1v (f : Str) (K : PySem.W.Frag) : Sp := fun vs H Q _ => ∃ (a C : Addr) (v : V), vs = [.ref a, v] ∧ H a = some (exo a C none) ∧ OexC K C ∧ PySem.W.findIn K (.ref C) f = some none ∧
  ∀ dx H', H dx = none → dx ≠ a → XMade H H' a C dx [(f, v)] → Q .non H'
theorem raise1v {W : WX} (oe : OexC K C) (nf : PySem.W.findIn K (.ref C) f = some none) (hv : Ev te σ H v)
    (hk : ∀ d H', Ex H H' → H' d = some (.xd [(f, v)]) → W (.ref C) (some d) σ H') : tMkO C (sp_I1v f K) [] (tCons te tNil) σ H (fun cls d H' => W cls d σ H') :=
  hv H (Ex.refl _) _ fun H2 e2 => ⟨(by show 1 ≤ 1000; decide), fun a na => ⟨a, C, v, rfl, upd_same, oe, nf, fun dx H' hdx ne m =>
    ⟨rfl, dx, _, m.1, m.2.1, upd_none hdx, xm_raise e2 na (upd_none hdx) m hk⟩⟩⟩
theorem init1v_body {m : List Nat} {tj : TE} (hj : Ev tj [some (.ref a), some v] H (.str (S m))) (ha : H a = some (exo a C none)) (oe : OexC K C) (nf : PySem.W.findIn K (.ref C) f = some none)
    (q : ∀ dx H', H dx = none → dx ≠ a → XMade H H' a C dx [(f, v)] → D.nx [some (.ref a), some v] H') : tSeq (tDrop (tVeI K (tCons (tVar 0) (tCons tj tNil)))) (tOst K f (tVar 0) (tVar 1)) D [some (.ref a), some v] H := by
  refine q_beinit (ev_var rfl) hj oe ha fun H1 e1 => ?_
  exact ⟨_, rfl, _, rfl, a, C, rfl, oe, nf, .inl ⟨e1 _ _ ha, fun dx hd ne => q dx _ (fresh_back e1 hd) ne (xmade_new e1 ne)⟩⟩
/-- raised: a new error with one field -/
def Rzv (H : Hp) (E : XK) (C : Addr) (f : Str) (v : V) : Prop := ∀ d H', Ex H H' → H' d = some (.xd [(f, v)]) → E (.ref C) (some d) H'
theorem Rzv.mono {E : XK} (h : Rzv H E C f v) (e : Ex H H') : Rzv H' E C f v := fun d H2 e2 hd => h d H2 (e.trans e2) hd
theorem ev_dgetI (h1 : Ev td σ H (.ref d)) (h2 : Ev ty σ H (.int k)) (hd : H d = some (.dK kvs)) (hv : valV kvs (Sum.inl k) = some v) : Ev (tDGet td ty) σ H v := fun H1 e Q q =>
  h1 H1 e _ fun H2 e2 => h2 H2 (e.trans e2) _ fun H3 e3 => ⟨d, v, rfl, by
    have g := DGet.k (k := (Sum.inl k : Key)) (((e.trans e2).trans e3) _ _ hd)
    rw [hv] at g
    exact g, q H3 (e2.trans e3)⟩
theorem ev_dinI (h2 : Ev ty σ H (.int k)) (h1 : Ev td σ H (.ref d)) (hd : H d = some (.dK kvs)) : Ev (tDIn ty td) σ H (.bl (valV kvs (Sum.inl k)).isSome) := fun H1 e Q q =>
  h2 H1 e _ fun H2 e2 => h1 H2 (e.trans e2) _ fun H3 e3 => ⟨d, _, rfl, DGet.k (k := (Sum.inl k : Key)) (((e.trans e2).trans e3) _ _ hd), q H3 (e2.trans e3)⟩
theorem ev_dninI (h2 : Ev ty σ H (.int k)) (h1 : Ev td σ H (.ref d)) (hd : H d = some (.dK kvs)) : Ev (tDNotIn ty td) σ H (.bl (!(valV kvs (Sum.inl k)).isSome)) := fun H1 e Q q =>
  h2 H1 e _ fun H2 e2 => h1 H2 (e.trans e2) _ fun H3 e3 => ⟨d, _, rfl, DGet.k (k := (Sum.inl k : Key)) (((e.trans e2).trans e3) _ _ hd), q H3 (e2.trans e3)⟩
theorem s_dputI (hv : Ev tv σ H v) (h1 : ∀ H1, Ex H H1 → Ev td σ H1 (.ref d)) (h2 : ∀ H1, Ex H H1 → Ev ty σ H1 (.int k)) (hd : H d = some (.dK kvs)) (hl : kvs.length < 100000) (q : ∀ H1, Ex H H1 → D.nx σ (L2.upd H1 d (.dK (putK kvs (Sum.inl k) v)))) : sDPut td ty tv D σ H :=
  hv H (Ex.refl H) _ fun H1 e1 => h1 H1 e1 H1 (Ex.refl H1) _ fun H2 e2 => h2 H2 (e1.trans e2) H2 (Ex.refl H2) _ fun H3 e3 => ⟨d, _, rfl, DPut.k (k := (Sum.inl k : Key)) (((e1.trans e2).trans e3) _ _ hd) (sz_lt hl), q H3 ((e1.trans e2).trans e3)⟩
theorem q_dputI (hv : Ev tv σ H v) (h1 : ∀ H1, Ex H H1 → Ev td σ H1 (.ref d)) (h2 : ∀ H1, Ex H H1 → Ev ty σ H1 (.int k)) (hd : H d = some (.dK kvs)) (hl : kvs.length < 100000) (q : ∀ H1, Ex H H1 → tz D σ (L2.upd H1 d (.dK (putK kvs (Sum.inl k) v)))) : tSeq (sDPut td ty tv) tz D σ H :=
  s_dputI (D := { D with nx := tz D }) hv h1 h2 hd hl q
theorem s_ddelI (h1 : Ev td σ H (.ref d)) (h2 : ∀ H1, Ex H H1 → Ev ty σ H1 (.int k)) (hd : H d = some (.dK kvs)) (hs : (valV kvs (Sum.inl k)).isSome = true) (q : ∀ H1, Ex H H1 → D.nx σ (L2.upd H1 d (.dK (dropK kvs (Sum.inl k))))) : sDDel td ty D σ H :=
  h1 H (Ex.refl H) _ fun H2 e2 => h2 H2 e2 H2 (Ex.refl H2) _ fun H3 e3 => ⟨d, kvs, Sum.inl k, rfl, (e2.trans e3) _ _ hd, rfl, hs, q H3 (e2.trans e3)⟩
theorem s_dpopI (h1 : Ev td σ H (.ref d)) (h2 : ∀ H1, Ex H H1 → Ev ty σ H1 (.int k)) (hd : H d = some (.dK kvs)) (hs : valV kvs (Sum.inl k) = some v) (q : ∀ H1, Ex H H1 → D.nx σ (L2.upd H1 d (.dK (dropK kvs (Sum.inl k))))) : tDrop (tDPop1 td ty) D σ H :=
  h1 H (Ex.refl H) _ fun H2 e2 => ⟨d, rfl, .inl ⟨kvs, .inl (e2 _ _ hd)⟩, h2 H2 e2 H2 (Ex.refl H2) _ fun H3 e3 => ⟨kvs, Sum.inl k, v, (e2.trans e3) _ _ hd, rfl, hs, q H3 (e2.trans e3)⟩⟩
end
theorem dta_ints {H : Hp} : ∀ ks : List Int, DtA H (ks.map V.int) (ks.map .int)
  | [] => .nil
  | k :: r => .cons (.int k) (dta_ints r)
theorem canL_ints : ∀ ks : List Int, PyData.canLayAll0 (ks.map .int) = true
  | [] => rfl
  | k :: r => can_cons (by simp [PyData.canLay0]) (canL_ints r)
theorem depth_ints : ∀ ks : List Int, PyData.depthAll (ks.map .int) = 0
  | [] => rfl
  | k :: r => by
    show max 0 (PyData.depthAll (r.map .int)) = 0
    rw [depth_ints r]
    rfl
theorem shaped_ints (ks : List Int) : SeqAt.shaped (.list (ks.map .int)) = true := by
  show (PyData.canLayAll0 (ks.map .int) && decide (PyData.depthAll (ks.map .int) + 1 ≤ 64)) = true
  rw [canL_ints ks, depth_ints]
  rfl
theorem ints_uniq {l m : List Int} (h1 : l.Pairwise (· ≤ ·)) (h2 : m.Pairwise (· ≤ ·)) (p : l.Perm m) : l = m :=
  List.Perm.eq_of_pairwise (fun _ _ _ _ a b => Int.le_antisymm a b) h1 h2 p
theorem cutV_some {τ : Type} {g : τ → V} (ns : List τ) (lo hi : Option Int) : ∃ ms : List τ, cutV (ns.map g) lo hi = ms.map g ∧ (∀ x ∈ ms, x ∈ ns) ∧ ms.length ≤ ns.length := by
  unfold cutV
  rw [List.length_map]
  refine ⟨(ns.drop (HT.sIx ns.length 0 lo)).take (HT.sIx ns.length ns.length hi - HT.sIx ns.length 0 lo), by rw [List.map_take, List.map_drop], fun x hx => List.mem_of_mem_drop (List.mem_of_mem_take hx), ?_⟩
  rw [List.length_take, List.length_drop]
  omega
section
variable {K : PySem.W.Frag} {σ : L2.St} {H H1 H' : Hp} {ta tb td ty te tv : TE} {a d C B dd : Addr} {kvs : List (Key × V)} {k : Int} {v : V} {f : Str} {fs : List (Str × V)} {i : Nat}
/-- a field of the error in hand -/
theorem ev_xf (hσ : σ[i]? = some (some (.ref a))) (hd : H dd = some (.xd fs)) (hl : fs.lookup f = some v) : Ev (tXf a (.ref C) (some dd) C f (tVar i)) σ H v := fun H1 e Q q =>
  ⟨_, hσ, rfl, rfl, dd, fs, v, rfl, e _ _ hd, hl, q H1 (Ex.refl _)⟩
theorem ev_isX (X : Xc K C B) (hσ : σ[i]? = some (some (.ref a))) (hd : H dd = some (.xd fs)) : Ev (tCB (rIsX K a (.ref C) (some dd)) (tCons (tVar i) (tCons (tC (.ref B)) tNil))) σ H (.bl true) := fun H1 e Q q =>
  ⟨_, hσ, C, dd, fs, .ref B, _, true, rfl, rfl, X.xc, e _ _ hd, rfl, fun u h => h, X.kB, q H1 (Ex.refl _)⟩
theorem evd_sortDI {ks ys : List Int} (hb : Ev tb σ H (.ref a)) (ha : H a = some (.dK kvs)) (hk : kvs.map (·.1) = ks.map Sum.inl) (hn : ks.length < 64) (hp : ys.Perm ks) (hs : ys.Pairwise (· ≤ ·)) : EvD (tCB (rSortDI K) (tCons tb tNil)) σ H (.list (ys.map .int)) := fun H1 e Q q =>
  hb H1 e _ fun H2 e2 => ⟨a, kvs, ks, rfl, .inl ((e.trans e2) _ _ ha), hk, hn, fun zs p hz hsz hnp => by
    have := ints_uniq hsz hs (hz.trans hp.symm)
    subst this
    exact q _ _ (e2.trans (Ex.new hnp)) (.lst upd_same (dta_ints _))⟩
theorem rv_neBB {b : Bool} : RV rNe (.bl b) (.bl b) H (.bl false) := fun H1 _ _ q => ⟨rfl, by
  have e : decide (V.bl b = V.bl b) = true := by simp
  rw [e]
  exact q H1 (Ex.refl H1)⟩
end
section
variable {K : PySem.W.Frag} {σ : L2.St} {H : Hp} {ta tb : TE}
theorem ev_mn2 {i j : Int} (ha : Ev ta σ H (.int i)) (hb : Ev tb σ H (.int j)) : Ev (tCB rMn2 (tCons ta (tCons tb tNil))) σ H (.int (if j < i then j else i)) := fun H1 e Q q =>
  ha H1 e _ fun H2 e2 => hb H2 (e.trans e2) _ fun H3 e3 => ⟨i, j, rfl, q H3 (e2.trans e3)⟩
theorem ev_ixLit {xs : List V} {v : V} {i : Nat} {j : Int} (ha : EvL ta σ H xs) (hb : Ev tb σ H (.int j)) (hj : j = (i : Int)) (h : xs[i]? = some v) : Ev (tOp (rIxL K) ta tb) σ H v := fun H1 e Q q =>
  ha H1 e _ fun p H2 np e2 hp => hb H2 (e.trans e2) _ fun H3 e3 => ⟨p, xs, j, v, rfl, rfl, sq_of (e3 _ _ hp), atI_nat' hj h, q H3 (e2.trans e3)⟩
end
section
variable {σ : L2.St} {H : Hp} {tA : TA} {sp : Sp} {E : XK} {vs : List V} {D : Ends} {tz tu tw : TS} {g : TG} {tc : TT} {b0 : Bool}
theorem q_asgC (hA : EvA tA σ H vs) (k : ∀ H1, Ex H H1 → sp vs H1 (fun v H2 => g v σ H2 (tz D)) E) : tSeq (tAsg (tCall sp [] E tA) g) tz D σ H := hA H (Ex.refl H) _ fun H1 e1 => by
  rw [List.append_nil]
  exact k H1 e1
/-- if not f(..): where the call may change the heap -/
theorem q_whenNC (hA : EvA tA σ H vs) (k : ∀ H1, Ex H H1 → sp vs H1 (fun v H2 => ∃ b, v = .bl b ∧ if (!b) = true then tu { D with nx := tz D } σ H2 else tw { D with nx := tz D } σ H2) E) : tSeq (tIfS (tNot (tB (tCall sp [] E tA))) tu tw) tz D σ H := hA H (Ex.refl H) _ fun H1 e1 => by
  rw [List.append_nil]
  exact k H1 e1
theorem q_whenAC (hc : EvT tc σ H b0) (hA : ∀ H1, Ex H H1 → EvA tA σ H1 vs) (k0 : b0 = false → ∀ H1, Ex H H1 → tw { D with nx := tz D } σ H1)
    (k : b0 = true → ∀ H1, Ex H H1 → sp vs H1 (fun v H2 => ∃ b, v = .bl b ∧ if (!b) = true then tu { D with nx := tz D } σ H2 else tw { D with nx := tz D } σ H2) E) : tSeq (tIfS (tAnd tc (tNot (tB (tCall sp [] E tA)))) tu tw) tz D σ H := hc H (Ex.refl H) _ fun H1 e1 => by
  cases b0 with
  | false => exact k0 rfl H1 e1
  | true =>
    refine hA H1 e1 H1 (Ex.refl H1) _ fun H2 e2 => ?_
    rw [List.append_nil]
    exact k rfl H2 (e1.trans e2)
end
end Kn

namespace My
open PySem PySem.Spec PyProof.Rows L2 Evl SX Kn
def topS (i : Nat) : Stmt := PySem.Challenge.pw_kilnyard_k43_contents_of_a_store.main.body.getD i (.Pass ⟨0, 0, 0, 0⟩)
abbrev s__wall : Stmt := topS 0
abbrev N__wall : List Str := ["k"]
theorem sc__wall : FnScope N__wall ["k"] (defScope s__wall) := ⟨rfl, rfl, rfl, by decide +kernel, rfl, by decide +kernel, by decide +kernel⟩
abbrev s_content_key : Stmt := topS 4
abbrev N_content_key : List Str := ["text", "sign"]
theorem sc_content_key : FnScope N_content_key ["text"] (defScope s_content_key) := ⟨rfl, rfl, rfl, by decide +kernel, rfl, by decide +kernel, by decide +kernel⟩
abbrev s_is_path : Stmt := topS 9
abbrev N_is_path : List Str := ["value", "names", "name"]
theorem sc_is_path : FnScope N_is_path ["value"] (defScope s_is_path) := ⟨rfl, rfl, rfl, by decide +kernel, rfl, by decide +kernel, by decide +kernel⟩
abbrev s_is_pattern : Stmt := topS 10
abbrev N_is_pattern : List Str := ["value"]
theorem sc_is_pattern : FnScope N_is_pattern ["value"] (defScope s_is_pattern) := ⟨rfl, rfl, rfl, by decide +kernel, rfl, by decide +kernel, by decide +kernel⟩
abbrev s_is_name_pattern : Stmt := topS 11
abbrev N_is_name_pattern : List Str := ["value"]
theorem sc_is_name_pattern : FnScope N_is_name_pattern ["value"] (defScope s_is_name_pattern) := ⟨rfl, rfl, rfl, by decide +kernel, rfl, by decide +kernel, by decide +kernel⟩
abbrev s__is_name : Stmt := topS 12
abbrev N__is_name : List Str := ["name", "sign"]
theorem sc__is_name : FnScope N__is_name ["name"] (defScope s__is_name) := ⟨rfl, rfl, rfl, by decide +kernel, rfl, by decide +kernel, by decide +kernel⟩
abbrev s_is_identifier : Stmt := topS 22
abbrev N_is_identifier : List Str := ["value", "sign"]
theorem sc_is_identifier : FnScope N_is_identifier ["value"] (defScope s_is_identifier) := ⟨rfl, rfl, rfl, by decide +kernel, rfl, by decide +kernel, by decide +kernel⟩
abbrev s_parse_record : Stmt := topS 31
abbrev N_parse_record : List Str := ["line", "words", "outputs", "needs", "results", "word"]
theorem sc_parse_record : FnScope N_parse_record ["line"] (defScope s_parse_record) := ⟨rfl, rfl, rfl, by decide +kernel, rfl, by decide +kernel, by decide +kernel⟩
abbrev s__parse_need : Stmt := topS 32
abbrev N__parse_need : List Str := ["word", "items"]
theorem sc__parse_need : FnScope N__parse_need ["word"] (defScope s__parse_need) := ⟨rfl, rfl, rfl, by decide +kernel, rfl, by decide +kernel, by decide +kernel⟩
abbrev s__parse_seen : Stmt := topS 33
abbrev N__parse_seen : List Str := ["word"]
theorem sc__parse_seen : FnScope N__parse_seen ["word"] (defScope s__parse_seen) := ⟨rfl, rfl, rfl, by decide +kernel, rfl, by decide +kernel, by decide +kernel⟩
abbrev s__are_outputs : Stmt := topS 34
abbrev N__are_outputs : List Str := ["words", "word"]
theorem sc__are_outputs : FnScope N__are_outputs ["words"] (defScope s__are_outputs) := ⟨rfl, rfl, rfl, by decide +kernel, rfl, by decide +kernel, by decide +kernel⟩
abbrev s__are_needs : Stmt := topS 35
abbrev N__are_needs : List Str := ["words", "questions", "word"]
theorem sc__are_needs : FnScope N__are_needs ["words"] (defScope s__are_needs) := ⟨rfl, rfl, rfl, by decide +kernel, rfl, by decide +kernel, by decide +kernel⟩
abbrev s__is_need : Stmt := topS 36
abbrev N__is_need : List Str := ["word", "items", "kind", "seen"]
theorem sc__is_need : FnScope N__is_need ["word"] (defScope s__is_need) := ⟨rfl, rfl, rfl, by decide +kernel, rfl, by decide +kernel, by decide +kernel⟩
abbrev s__is_folder : Stmt := topS 37
abbrev N__is_folder : List Str := ["word"]
theorem sc__is_folder : FnScope N__is_folder ["word"] (defScope s__is_folder) := ⟨rfl, rfl, rfl, by decide +kernel, rfl, by decide +kernel, by decide +kernel⟩
abbrev s__is_number_or_nothing : Stmt := topS 38
abbrev N__is_number_or_nothing : List Str := ["word"]
theorem sc__is_number_or_nothing : FnScope N__is_number_or_nothing ["word"] (defScope s__is_number_or_nothing) := ⟨rfl, rfl, rfl, by decide +kernel, rfl, by decide +kernel, by decide +kernel⟩
abbrev s__is_number : Stmt := topS 39
abbrev N__is_number : List Str := ["word"]
theorem sc__is_number : FnScope N__is_number ["word"] (defScope s__is_number) := ⟨rfl, rfl, rfl, by decide +kernel, rfl, by decide +kernel, by decide +kernel⟩
abbrev s__read_row : Stmt := topS 42
abbrev N__read_row : List Str := ["row", "key", "line"]
theorem sc__read_row : FnScope N__read_row ["row"] (defScope s__read_row) := ⟨rfl, rfl, rfl, by decide +kernel, rfl, by decide +kernel, by decide +kernel⟩
abbrev s__law_cell : Stmt := topS 44
abbrev N__law_cell : List Str := ["script", "k"]
theorem sc__law_cell : FnScope N__law_cell ["script", "k"] (defScope s__law_cell) := ⟨rfl, rfl, rfl, by decide +kernel, rfl, by decide +kernel, by decide +kernel⟩
abbrev s__law_numbers : Stmt := topS 45
abbrev N__law_numbers : List Str := ["cell", "count", "rest", "large", "mixed", "row", "k"]
theorem sc__law_numbers : FnScope N__law_numbers ["cell", "count"] (defScope s__law_numbers) := ⟨rfl, rfl, rfl, by decide +kernel, rfl, by decide +kernel, by decide +kernel⟩
abbrev s__law_text : Stmt := topS 46
abbrev N__law_text : List Str := ["n", "size", "letters", "k"]
theorem sc__law_text : FnScope N__law_text ["n", "size"] (defScope s__law_text) := ⟨rfl, rfl, rfl, by decide +kernel, rfl, by decide +kernel, by decide +kernel⟩
abbrev s__law_asked : Stmt := topS 47
abbrev N__law_asked : List Str := ["store", "kept", "keys", "told", "key", "whole", "text", "e"]
theorem sc__law_asked : FnScope N__law_asked ["store", "kept", "keys"] (defScope s__law_asked) := ⟨rfl, rfl, rfl, by decide +kernel, rfl, by decide +kernel, by decide +kernel⟩
abbrev s__law_deed : Stmt := topS 48
abbrev N__law_deed : List Str := ["store", "kept", "n", "text", "other", "key", "kind", "e"]
theorem sc__law_deed : FnScope N__law_deed ["store", "kept", "n", "text", "other"] (defScope s__law_deed) := ⟨rfl, rfl, rfl, by decide +kernel, rfl, by decide +kernel, by decide +kernel⟩
abbrev s_law : Stmt := topS 49
abbrev N_law : List Str := ["script", "size", "store", "second", "kept", "beside", "keys", "k", "row", "text", "other"]
theorem sc_law : FnScope N_law ["script"] (defScope s_law) := ⟨rfl, rfl, rfl, by decide +kernel, rfl, by decide +kernel, by decide +kernel⟩
abbrev s_InvalidRecord___init__ : Stmt := inClass (topS 14) 0
abbrev N_InvalidRecord___init__ : List Str := ["self", "line"]
theorem sc_InvalidRecord___init__ : FnScope N_InvalidRecord___init__ ["self", "line"] (defScope s_InvalidRecord___init__) := ⟨rfl, rfl, rfl, by decide +kernel, rfl, by decide +kernel, by decide +kernel⟩
abbrev s_MissingContent___init__ : Stmt := inClass (topS 15) 0
abbrev N_MissingContent___init__ : List Str := ["self", "key"]
theorem sc_MissingContent___init__ : FnScope N_MissingContent___init__ ["self", "key"] (defScope s_MissingContent___init__) := ⟨rfl, rfl, rfl, by decide +kernel, rfl, by decide +kernel, by decide +kernel⟩
abbrev s_NoSuchRecord___init__ : Stmt := inClass (topS 16) 0
abbrev N_NoSuchRecord___init__ : List Str := ["self", "index"]
theorem sc_NoSuchRecord___init__ : FnScope N_NoSuchRecord___init__ ["self", "index"] (defScope s_NoSuchRecord___init__) := ⟨rfl, rfl, rfl, by decide +kernel, rfl, by decide +kernel, by decide +kernel⟩
abbrev s_DamagedRecord___init__ : Stmt := inClass (topS 17) 0
abbrev N_DamagedRecord___init__ : List Str := ["self", "index"]
theorem sc_DamagedRecord___init__ : FnScope N_DamagedRecord___init__ ["self", "index"] (defScope s_DamagedRecord___init__) := ⟨rfl, rfl, rfl, by decide +kernel, rfl, by decide +kernel, by decide +kernel⟩
abbrev s_Record___init__ : Stmt := inClass (topS 30) 0
abbrev N_Record___init__ : List Str := ["self", "outputs", "rule_key", "needs", "results"]
theorem sc_Record___init__ : FnScope N_Record___init__ ["self", "outputs", "rule_key", "needs", "results"] (defScope s_Record___init__) := ⟨rfl, rfl, rfl, by decide +kernel, rfl, by decide +kernel, by decide +kernel⟩
abbrev s_Record___eq__ : Stmt := inClass (topS 30) 1
abbrev N_Record___eq__ : List Str := ["self", "other"]
theorem sc_Record___eq__ : FnScope N_Record___eq__ ["self", "other"] (defScope s_Record___eq__) := ⟨rfl, rfl, rfl, by decide +kernel, rfl, by decide +kernel, by decide +kernel⟩
abbrev s_Store___init__ : Stmt := inClass (topS 41) 0
abbrev N_Store___init__ : List Str := ["self", "journal"]
theorem sc_Store___init__ : FnScope N_Store___init__ ["self", "journal"] (defScope s_Store___init__) := ⟨rfl, rfl, rfl, by decide +kernel, rfl, by decide +kernel, by decide +kernel⟩
abbrev s_Store_put_content : Stmt := inClass (topS 41) 1
abbrev N_Store_put_content : List Str := ["self", "text", "key"]
theorem sc_Store_put_content : FnScope N_Store_put_content ["self", "text"] (defScope s_Store_put_content) := ⟨rfl, rfl, rfl, by decide +kernel, rfl, by decide +kernel, by decide +kernel⟩
abbrev s_Store_content : Stmt := inClass (topS 41) 2
abbrev N_Store_content : List Str := ["self", "key"]
theorem sc_Store_content : FnScope N_Store_content ["self", "key"] (defScope s_Store_content) := ⟨rfl, rfl, rfl, by decide +kernel, rfl, by decide +kernel, by decide +kernel⟩
abbrev s_Store_has_content : Stmt := inClass (topS 41) 3
abbrev N_Store_has_content : List Str := ["self", "key"]
theorem sc_Store_has_content : FnScope N_Store_has_content ["self", "key"] (defScope s_Store_has_content) := ⟨rfl, rfl, rfl, by decide +kernel, rfl, by decide +kernel, by decide +kernel⟩
abbrev s_Store_add_record : Stmt := inClass (topS 41) 4
abbrev N_Store_add_record : List Str := ["self", "record"]
theorem sc_Store_add_record : FnScope N_Store_add_record ["self", "record"] (defScope s_Store_add_record) := ⟨rfl, rfl, rfl, by decide +kernel, rfl, by decide +kernel, by decide +kernel⟩
abbrev s_Store_record : Stmt := inClass (topS 41) 5
abbrev N_Store_record : List Str := ["self", "index", "found"]
theorem sc_Store_record : FnScope N_Store_record ["self", "index"] (defScope s_Store_record) := ⟨rfl, rfl, rfl, by decide +kernel, rfl, by decide +kernel, by decide +kernel⟩
abbrev s_Store_find_records : Stmt := inClass (topS 41) 6
abbrev N_Store_find_records : List Str := ["self", "outputs", "rule_key"]
theorem sc_Store_find_records : FnScope N_Store_find_records ["self", "outputs", "rule_key"] (defScope s_Store_find_records) := ⟨rfl, rfl, rfl, by decide +kernel, rfl, by decide +kernel, by decide +kernel⟩
abbrev s_Store_lose_content : Stmt := inClass (topS 41) 7
abbrev N_Store_lose_content : List Str := ["self", "key"]
theorem sc_Store_lose_content : FnScope N_Store_lose_content ["self", "key"] (defScope s_Store_lose_content) := ⟨rfl, rfl, rfl, by decide +kernel, rfl, by decide +kernel, by decide +kernel⟩
abbrev s_Store_damage_content : Stmt := inClass (topS 41) 8
abbrev N_Store_damage_content : List Str := ["self", "key", "text"]
theorem sc_Store_damage_content : FnScope N_Store_damage_content ["self", "key", "text"] (defScope s_Store_damage_content) := ⟨rfl, rfl, rfl, by decide +kernel, rfl, by decide +kernel, by decide +kernel⟩
abbrev s_Store_lose_record : Stmt := inClass (topS 41) 9
abbrev N_Store_lose_record : List Str := ["self", "index"]
theorem sc_Store_lose_record : FnScope N_Store_lose_record ["self", "index"] (defScope s_Store_lose_record) := ⟨rfl, rfl, rfl, by decide +kernel, rfl, by decide +kernel, by decide +kernel⟩
abbrev s_Store_damage_record : Stmt := inClass (topS 41) 10
abbrev N_Store_damage_record : List Str := ["self", "index", "line"]
theorem sc_Store_damage_record : FnScope N_Store_damage_record ["self", "index", "line"] (defScope s_Store_damage_record) := ⟨rfl, rfl, rfl, by decide +kernel, rfl, by decide +kernel, by decide +kernel⟩
abbrev s_Store_content_keys : Stmt := inClass (topS 41) 11
abbrev N_Store_content_keys : List Str := ["self"]
theorem sc_Store_content_keys : FnScope N_Store_content_keys ["self"] (defScope s_Store_content_keys) := ⟨rfl, rfl, rfl, by decide +kernel, rfl, by decide +kernel, by decide +kernel⟩
abbrev s_Store_record_count : Stmt := inClass (topS 41) 12
abbrev N_Store_record_count : List Str := ["self"]
theorem sc_Store_record_count : FnScope N_Store_record_count ["self"] (defScope s_Store_record_count) := ⟨rfl, rfl, rfl, by decide +kernel, rfl, by decide +kernel, by decide +kernel⟩
abbrev s_Store_twin : Stmt := inClass (topS 41) 13
abbrev N_Store_twin : List Str := ["self"]
theorem sc_Store_twin : FnScope N_Store_twin ["self"] (defScope s_Store_twin) := ⟨rfl, rfl, rfl, by decide +kernel, rfl, by decide +kernel, by decide +kernel⟩
abbrev s_Store_kept_texts : Stmt := inClass (topS 41) 14
abbrev N_Store_kept_texts : List Str := ["self"]
theorem sc_Store_kept_texts : FnScope N_Store_kept_texts ["self"] (defScope s_Store_kept_texts) := ⟨rfl, rfl, rfl, by decide +kernel, rfl, by decide +kernel, by decide +kernel⟩
abbrev s_Store_kept_records : Stmt := inClass (topS 41) 15
abbrev N_Store_kept_records : List Str := ["self"]
theorem sc_Store_kept_records : FnScope N_Store_kept_records ["self"] (defScope s_Store_kept_records) := ⟨rfl, rfl, rfl, by decide +kernel, rfl, by decide +kernel, by decide +kernel⟩
abbrev s_Store_fill_from : Stmt := inClass (topS 41) 16
abbrev N_Store_fill_from : List Str := ["self", "texts", "rows"]
theorem sc_Store_fill_from : FnScope N_Store_fill_from ["self", "texts", "rows"] (defScope s_Store_fill_from) := ⟨rfl, rfl, rfl, by decide +kernel, rfl, by decide +kernel, by decide +kernel⟩
abbrev s_Store__check_content : Stmt := inClass (topS 41) 17
abbrev N_Store__check_content : List Str := ["self", "key"]
theorem sc_Store__check_content : FnScope N_Store__check_content ["self", "key"] (defScope s_Store__check_content) := ⟨rfl, rfl, rfl, by decide +kernel, rfl, by decide +kernel, by decide +kernel⟩
abbrev s_Store__check_kept : Stmt := inClass (topS 41) 18
abbrev N_Store__check_kept : List Str := ["self", "index"]
theorem sc_Store__check_kept : FnScope N_Store__check_kept ["self", "index"] (defScope s_Store__check_kept) := ⟨rfl, rfl, rfl, by decide +kernel, rfl, by decide +kernel, by decide +kernel⟩
structure Tx (mg : Str → Option Value) : Prop where
  b_abs : mg "abs" = none
  b_bool : mg "bool" = none
  b_int : mg "int" = none
  b_isinstance : mg "isinstance" = none
  b_len : mg "len" = none
  b_list : mg "list" = none
  b_max : mg "max" = none
  b_min : mg "min" = none
  b_ord : mg "ord" = none
  b_range : mg "range" = none
  b_sorted : mg "sorted" = none
structure Gx (K : PySem.W.Frag) (mg : Str → Option Value) where
  c_BuildError : Addr
  g_BuildError : mg "BuildError" = some (.ref c_BuildError)
  b_BuildError : Kn.BaseC K c_BuildError
  c_MissingContent : Addr
  g_MissingContent : mg "MissingContent" = some (.ref c_MissingContent)
  x_MissingContent : Kn.Xc K c_MissingContent c_BuildError
  n_MissingContent_key : PySem.W.findIn K (.ref c_MissingContent) "key" = some none
local macro_rules | `(tactic| walk_at "ev") => `(tactic| first
  | exact ev_c
  | exact ev_var rfl
  | exact ea_nil
  | exact eo_none
  | (apply eo_some; walk_at "ev")
  | (apply ea_cons <;> walk_at "ev")
  | (apply ev_op <;> first | walk_at "rv" | walk_at "ev")
  | (apply ev_un <;> first | exact ru_neg | walk_at "ev")
  | (apply ev_chain <;> first | walk_at "rv" | walk_at "ev")
  | (apply et_test; walk_at "ev")
  | (apply et_B; walk_at "ev")
  | (apply et_not; walk_at "ev")
  | (apply et_and; walk_at "ev"; intro _; walk_at "ev")
  | (apply et_or; walk_at "ev"; intro _; walk_at "ev")
  | (apply ev_andV; walk_at "ev"; intro _; walk_at "ev")
  | (apply ev_orV; walk_at "ev"; intro _; walk_at "ev")
  | (apply ev_notV; walk_at "ev")
  | (apply ev_cb <;> first | walk_at "rc" | walk_at "ev"))
local macro_rules | `(tactic| walk_at "rv") => `(tactic| first
  | exact rv_eqI | exact rv_neI | exact rv_eqS | exact rv_neS | exact rv_le | exact rv_lt | exact rv_ge | exact rv_gt | exact rv_inS | exact rv_ninS
  | exact rv_I0
  | exact rv_pow ⟨by decide, by decide, by decide⟩
  | exact rv_mod (by first | decide | omega)
  | exact rv_fdiv ⟨by decide, by decide⟩
  | exact rv_fdiv ⟨by omega, by omega⟩
  | exact rv_addS (by first | assumption | omega)
  | exact rv_mul (.inr ⟨by decide, by decide⟩) | exact rv_mul (.inl ⟨by decide, by decide⟩)
  | exact rv_mul (by first | exact .inl ⟨by omega, by omega⟩ | exact .inr ⟨by omega, by omega⟩)
  | exact rv_eq rfl | exact rv_ne rfl)
local macro_rules | `(tactic| walk_at "rc") => `(tactic| first
  | exact rc_abs | exact rc_int | exact rc_intB | exact rc_ord
  | exact rc_lenS (by first | assumption | omega))

section
variable {P : Program} {w : World} {K : PySem.W.Frag} {mg : Str → Option Value} {base : Heap}
theorem ok_MissingContent___init__ {f : Addr} {fd : FuncData} (F : Fun K "__init__" "MissingContent.__init__" s_MissingContent___init__ f fd) (T : Tx mg) (G : Gx K mg)  : FnOk P w K mg base CX0 1 f fd ["self", "key"] (sp_I1v "key" K) := by
  refine F.ok sc_MissingContent___init__ (fun vs H Q E h => ?_) (fun cdv A outer s H vs Q E hr h => ?_)
  · obtain ⟨a, C, v, rfl, _⟩ := h
    rfl
  · obtain ⟨a, C, v, rfl, ha, oe, nf, q⟩ := h
    refine ⟨_, (pss_cons (ps_expr (Kn.pe_beinit G.b_BuildError (by rfl) G.g_BuildError (pa_cons (pv 0) (pa_cons pe_str pa_nil))))
      (pss_one (ps_ost (pv 0) (pv 1)))), ?_⟩
    exact init1v_body (ev_cS (l := (Str.ofString "no whole content is kept under this key").cps.toList) rfl) ha oe nf fun dx H' h1 h2 m => q dx H' h1 h2 m

end
/-! ### texts and their keys -/
def Tk (l : List Nat) : Prop := l.length ≤ 60 ∧ ∀ c ∈ l, c < 128
def keyN (l : List Nat) : Nat := Bi.binNum ([49] ++ (l.map Bi.pad7).flatten)
theorem isbin_pad (d : Nat) : ∀ c ∈ Bi.pad7 d, Bi.IsBin c := fun c hc => by
  unfold Bi.pad7 at hc
  simp only [List.mem_cons, List.not_mem_nil, or_false] at hc
  unfold Bi.IsBin
  omega
theorem bin_all (l : List Nat) : ∀ c ∈ [49] ++ (l.map Bi.pad7).flatten, Bi.IsBin c := fun c hc => by
  rcases List.mem_append.mp hc with h | h
  · rw [List.mem_singleton.mp h]
    exact .inr rfl
  · obtain ⟨x, hx, hc2⟩ := List.mem_flatten.mp h
    obtain ⟨d, _, rfl⟩ := List.mem_map.mp hx
    exact isbin_pad d c hc2
theorem flat_len : ∀ r : List Nat, ((r.map Bi.pad7).flatten).length = 7 * r.length
  | [] => rfl
  | d :: r => by
    rw [List.map_cons, List.flatten_cons, List.length_append, flat_len r, List.length_cons]
    show 7 + _ = _
    omega
theorem ev_fmt7 {σ : L2.St} {H : Hp} {te : TE} {d : Nat} (h : Ev te σ H (.int (d : Int))) (hd : d < 128) : Ev (Bi.tFmt7 te) σ H (.str (S (Bi.pad7 d))) := fun H1 e Q q =>
  h H1 e _ fun H2 e2 => ⟨d, rfl, hd, q H2 e2⟩
section
variable {P : Program} {w : World} {K : PySem.W.Frag} {mg : Str → Option Value} {base : Heap}
def sp_content_key (_ : PySem.W.Frag) : Sp := sp1 (fun l : List Nat => [.str (S l)]) (fun l _ => Tk l) (fun l => .int ((keyN l : Nat) : Int))
theorem ok_content_key {f : Addr} {fd : FuncData} (F : Fun K "content_key" "content_key" s_content_key f fd) (T : Tx mg) (G : Gx K mg)  : FnOk P w K mg base CX0 1 f fd ["text"] (sp_content_key K) := by
  refine F.ok sc_content_key (fun vs H Q E h => ?_) (fun cdv A outer s H vs Q E hr h => ?_)
  · obtain ⟨n, rfl, _⟩ := h
    rfl
  · obtain ⟨l, rfl, ⟨hl, hlt⟩, q⟩ := h
    refine ⟨_, (pss_one (ps_ret (pe_callTy Kn.Bi.cr_intBin (by rfl) T.b_int (by decide +kernel) (pa_cons (pe_op Kn.op_addS pe_str (Kn.pe_joinN (pe_join pe_str (pe_lc (own := [("sign", 1)]) rfl sc_content_key.nd (pi_str (pv 0)) (blkOk_by (own := [("sign", 1)]) (N := N_content_key) (sc := defScope s_content_key) (by decide +kernel)) (fun _ _ _ _ _ => pg_name (i := 1) sc_content_key.nd rfl (Or.inl rfl)) (fun _ _ _ _ _ => pts_nil) (fun _ _ _ _ _ => (pe_joined1 (Kn.Bi.pe_fmt7 (pe_callB Kn.cr_ord (by rfl) T.b_ord (by decide +kernel) (pa_cons (pv 1) pa_nil)) (pe_joined1 pe_str)))))))) (pa_cons pe_int pa_nil))))), ?_⟩
    have hfl := flat_len l
    refine s_ret (ev_intBin (l := [49] ++ (l.map Bi.pad7).flatten) (ea_cons (ev_op (ev_cS (l := [49]) rfl) (ev_is (ev_join (s := []) (ys := l.map Bi.pad7) (ev_cS (l := []) rfl) ?_ ?_) (by rw [Kn.join_nil])) (rv_addS (by rw [hfl]; show 1 + _ ≤ 100000; omega))) (ea_cons ev_c ea_nil)) (by simp) (by rw [List.length_append, hfl]; show 1 + _ ≤ 640; omega) (bin_all l)) q
    · rw [List.map_map]
      exact el_lcS (ev_var rfl) (by omega) (fun _ => rfl) fun c hc H2 e2 => ev_fmt7 (ev_cb (ea_cons (ev_var rfl) ea_nil) rc_ord) (hlt c hc)
    · rw [← List.length_flatten, hfl, List.length_nil, Nat.mul_zero]
      omega
end
/-! ### what a store and a dict of the law hold -/
def Good (kvs : List (Key × V)) : Prop := ∀ x ∈ kvs, ∃ (i : Int) (l : List Nat), x = (Sum.inl i, .str (S l)) ∧ Tk l
theorem good_nil : Good [] := fun _ h => nomatch h
theorem Good.look {kvs : List (Key × V)} (g : Good kvs) (k : Int) : valV kvs (Sum.inl k) = none ∨ ∃ l, valV kvs (Sum.inl k) = some (.str (S l)) ∧ Tk l := by
  unfold valV
  cases h : kvs.find? fun kv => decide (kv.1 = (Sum.inl k : Key)) with
  | none => exact .inl rfl
  | some x =>
    obtain ⟨i, l, rfl, hl⟩ := g x (List.mem_of_find?_eq_some h)
    exact .inr ⟨l, rfl, hl⟩
theorem Good.put {kvs : List (Key × V)} (g : Good kvs) {k : Int} {l : List Nat} (hl : Tk l) : Good (putK kvs (Sum.inl k) (.str (S l))) := fun x hx => by
  unfold putK at hx
  split at hx
  · obtain ⟨y, hy, rfl⟩ := List.mem_map.mp hx
    split
    · next h =>
      obtain ⟨i, m, rfl, _⟩ := g y hy
      exact ⟨i, l, rfl, hl⟩
    · exact g y hy
  · rcases List.mem_append.mp hx with h | h
    · exact g x h
    · rw [List.mem_singleton.mp h]
      exact ⟨k, l, rfl, hl⟩
theorem Good.drop {kvs : List (Key × V)} (g : Good kvs) {k : Key} : Good (dropK kvs k) := fun x hx => g x (List.mem_filter.mp hx).1
theorem Good.keys : ∀ {kvs : List (Key × V)}, Good kvs → ∃ ks : List Int, kvs.map (·.1) = ks.map Sum.inl
  | [], _ => ⟨[], rfl⟩
  | x :: r, g => by
    obtain ⟨i, l, rfl, _⟩ := g x List.mem_cons_self
    obtain ⟨ks, h⟩ := Good.keys (kvs := r) fun y hy => g y (List.mem_cons_of_mem _ hy)
    exact ⟨i :: ks, by rw [List.map_cons, h]; rfl⟩
theorem putK_len (kvs : List (Key × V)) (k : Key) (v : V) : (putK kvs k v).length ≤ kvs.length + 1 := by
  unfold putK
  split
  · rw [List.length_map]; omega
  · rw [List.length_append]; exact Nat.le_refl _
/-- a text lies under its key -/
def wholeB (kvs : List (Key × V)) (k : Int) : Bool := match valV kvs (Sum.inl k) with
  | some (.str s) => decide (((keyN s.cps.toList : Nat) : Int) = k)
  | _ => false
theorem whole_none {kvs : List (Key × V)} {k : Int} (h : valV kvs (Sum.inl k) = none) : wholeB kvs k = false := by
  unfold wholeB
  rw [h]
theorem whole_some {kvs : List (Key × V)} {k : Int} {l : List Nat} (h : valV kvs (Sum.inl k) = some (.str (S l))) : wholeB kvs k = decide (((keyN l : Nat) : Int) = k) := by
  unfold wholeB
  rw [h]
structure Tc (K : PySem.W.Frag) (C : Addr) : Prop where
  cl : Cls K C
  naj : NoAttr K C "journal"
  nat : NoAttr K C "_texts"
  nar : NoAttr K C "_rows"
def fldS (d r : Addr) : List (Str × V) := putF "_rows" (.ref r) (putF "_texts" (.ref d) (putF "journal" .non []))
theorem fld_t (d r : Addr) : (fldS d r).lookup ("_texts" : Str) = some (.ref d) := by rfl
theorem fld_j (d r : Addr) : (fldS d r).lookup ("journal" : Str) = some .non := by rfl
theorem fld_no (d r : Addr) {m : Str} (h1 : ¬ m = "_rows") (h2 : ¬ m = "_texts") (h3 : ¬ m = "journal") : (fldS d r).lookup m = none := by
  unfold fldS
  rw [lookup_putF, if_neg h1, lookup_putF, if_neg h2, lookup_putF, if_neg h3]
  rfl
structure Sto (C : Addr) (H : Hp) (p d : Addr) (kvs : List (Key × V)) : Prop where
  ob : ∃ dx r, H p = some (.ins C dx (fldS d r))
  dc : H d = some (.dK kvs)
theorem Sto.mono {C : Addr} {H H1 : Hp} {p d : Addr} {kvs : List (Key × V)} (T : Sto C H p d kvs) (e : Ex H H1) : Sto C H1 p d kvs := by
  obtain ⟨⟨dx, r, h1⟩, h2⟩ := T
  exact ⟨⟨dx, r, e _ _ h1⟩, e _ _ h2⟩
theorem Sto.upd {C : Addr} {H : Hp} {p d : Addr} {kvs kvs' : List (Key × V)} (T : Sto C H p d kvs) : Sto C (L2.upd H d (.dK kvs')) p d kvs' := by
  obtain ⟨⟨dx, r, h1⟩, h2⟩ := T
  exact ⟨⟨dx, r, by rw [upd_ne (ne_of h1 h2 (by intro z; cases z))]; exact h1⟩, upd_same⟩
/-- all but one dict stays -/
def Keeps (H H' : Hp) (d : Addr) : Prop := ∀ b o, H b = some o → b ≠ d → H' b = some o
theorem nb {b : Bool} (h : (!b) = true) : b = false := by cases b <;> simp_all
theorem nf {b : Bool} (h : (!b) = false) : b = true := by cases b <;> simp_all
section
variable {P : Program} {w : World} {K : PySem.W.Frag} {mg : Str → Option Value} {base : Heap}
def sp_Store___init__ (C : Addr) (_ : PySem.W.Frag) : Sp := fun vs H Q _ => ∃ (p dx : Addr), vs = [.ref p, .non] ∧ H p = some (.ins C dx []) ∧ ∀ (d : Addr) (H' : Hp), H d = none → Sto C H' p d [] → (∀ b o, H b = some o → b ≠ p → H' b = some o) → Q .non H'
theorem ok_Store___init__ {f C : Addr} {fd : FuncData} (F : FunD K "__init__" "Store.__init__" (defArgs s_Store___init__) (defBody s_Store___init__) (defScope s_Store___init__) [.non] [] f fd) (T : Tx mg) (G : Gx K mg) (TC : Tc K C)  : FnOk P w K mg base CX0 1 f fd ["self", "journal"] (sp_Store___init__ C K) := by
  refine F.ok sc_Store___init__ (fun vs H Q E h => ?_) (fun cdv A outer s H vs Q E hr h => ?_)
  · obtain ⟨p, dx, rfl, _⟩ := h
    rfl
  · obtain ⟨p, dx, rfl, hp, k⟩ := h
    refine ⟨_, (pss_cons (ps_fld (pv 0) (pv 1) rfl)
      (pss_cons (ps_fld (pv 0) pe_dnewK rfl)
      (pss_one (ps_fld (pv 0) (pe_lst pa_nil) rfl)))), ?_⟩
    refine ⟨_, rfl, _, rfl, p, C, dx, [], rfl, hp, TC.cl, TC.naj, (by show 0 < 1000; decide), ?_⟩
    intro d hd
    have npd : p ≠ d := fun z => by rw [z, upd_same] at hd; cases hd
    rw [upd_ne npd.symm] at hd
    refine ⟨_, rfl, p, C, dx, _, rfl, (by rw [upd_ne npd]; exact upd_same), TC.cl, TC.nat, (by show 1 < 1000; decide), ?_⟩
    refine ⟨sz_of (by show 0 ≤ 100000; decide), fun r hr => ?_⟩
    have npr : r ≠ p := fun z => by rw [z, upd_same] at hr; cases hr
    rw [upd_ne npr] at hr
    have nrd : r ≠ d := fun z => by rw [z, upd_same] at hr; cases hr
    rw [upd_ne nrd, upd_ne npr] at hr
    refine ⟨_, rfl, p, C, dx, _, rfl, (by rw [upd_ne npr.symm]; exact upd_same), TC.cl, TC.nar, (by show 2 < 1000; decide), ?_⟩
    refine k d _ hd ⟨⟨dx, r, upd_same⟩, ?_⟩ fun b o hb hne => ?_
    · rw [upd_ne npd.symm, upd_ne nrd.symm, upd_ne npd.symm, upd_same]
    · rw [upd_ne hne, upd_ne (ne_of_none hb hr), upd_ne hne, upd_ne (ne_of_none hb hd), upd_ne hne]
      exact hb
def sp_Store_has_content (C : Addr) (_ : PySem.W.Frag) : Sp := fun vs H Q _ => ∃ (p d : Addr) (kvs : List (Key × V)) (k : Int), vs = [.ref p, .int k] ∧ Sto C H p d kvs ∧ Good kvs ∧ Rt H (.bl (wholeB kvs k)) Q
theorem ev_whole {σ : L2.St} {H : Hp} {tk td : TE} {d : Addr} {kvs : List (Key × V)} {k : Int} (g : Good kvs) (hk : Ev tk σ H (.int k)) (hd : Ev td σ H (.ref d)) (h : H d = some (.dK kvs)) :
    Ev (tAndV (tDIn tk td) (tOp rEq (tCall (sp_content_key K) [] E0 (tCons (tDGet td tk) tNil)) tk)) σ H (.bl (wholeB kvs k)) := by
  rcases g.look k with z | ⟨l, z, hl⟩
  · rw [whole_none z]
    exact ev_is (ev_andV (a := false) (b := true) (ev_is (ev_dinI hk hd h) (by rw [z]; rfl)) fun z => nomatch z) rfl
  · rw [whole_some z]
    exact ev_is (ev_andV (a := true) (ev_is (ev_dinI hk hd h) (by rw [z]; rfl)) fun _ => ev_op (ev_c1 (a := l) (ea_cons (ev_dgetI hd hk h z) ea_nil) fun _ _ => hl) hk rv_eqI) (by rw [Bool.true_and])
theorem ok_Store_has_content {f C : Addr} {fd : FuncData} (F : Fun K "has_content" "Store.has_content" s_Store_has_content f fd) (T : Tx mg) (G : Gx K mg) (TC : Tc K C) (C_content_key : Kn.Cl P w K mg base 1 "content_key" (sp_content_key K)) : FnOk P w K mg base CX0 2 f fd ["self", "key"] (sp_Store_has_content C K) := by
  refine F.ok sc_Store_has_content (fun vs H Q E h => ?_) (fun cdv A outer s H vs Q E hr h => ?_)
  · obtain ⟨p, d, kvs, k, rfl, _⟩ := h
    rfl
  · obtain ⟨p, d, kvs, k, rfl, ⟨⟨dx, r, hp⟩, hd⟩, g, q⟩ := h
    refine ⟨_, (pss_one (ps_ret (pe_and (pe_cmp (pc_din (hu_of hr) (pv 1) (pe_fld (pv 0) rfl)) rfl) (pe_one (pe_cmpR op_eq (Kn.pe_cl C_content_key hr (by decide) (by rfl) (pa_cons (pe_dget (hu_of hr) (pe_fld (pv 0) rfl) (pv 1) (fun _ _ => rfl)) pa_nil)) (pv 1) (nomark _)))))), ?_⟩
    exact s_ret (ev_whole g (ev_var rfl) (ev_fld (ev_var rfl) hp TC.cl TC.nat (fld_t d r)) hd) q
theorem has_sp {C p d : Addr} {H : Hp} {kvs : List (Key × V)} {k : Int} (T : Sto C H p d kvs) (g : Good kvs) : SpV (sp_Store_has_content C K) [.ref p, .int k] H (.bl (wholeB kvs k)) := fun H1 e Q q E => ⟨p, d, kvs, k, rfl, T.mono e, g, fun H2 e2 => q H2 e2⟩
def sp_Store_put_content (C : Addr) (_ : PySem.W.Frag) : Sp := fun vs H Q _ => ∃ (p d : Addr) (kvs : List (Key × V)) (l : List Nat), vs = [.ref p, .str (S l)] ∧ Sto C H p d kvs ∧ Tk l ∧ kvs.length < 1000 ∧
  ∀ H', Sto C H' p d (putK kvs (Sum.inl ((keyN l : Nat) : Int)) (.str (S l))) → Keeps H H' d → Q (.int ((keyN l : Nat) : Int)) H'
theorem ok_Store_put_content {f C : Addr} {fd : FuncData} (F : Fun K "put_content" "Store.put_content" s_Store_put_content f fd) (T : Tx mg) (G : Gx K mg) (TC : Tc K C) (C_content_key : Kn.Cl P w K mg base 1 "content_key" (sp_content_key K)) (M_Store_has_content : Kn.Mt P w K mg base 2 C "has_content" (sp_Store_has_content C K)) : FnOk P w K mg base CX0 3 f fd ["self", "text"] (sp_Store_put_content C K) := by
  refine F.ok sc_Store_put_content (fun vs H Q E h => ?_) (fun cdv A outer s H vs Q E hr h => ?_)
  · obtain ⟨p, d, kvs, l, rfl, _⟩ := h
    rfl
  · obtain ⟨p, d, kvs, l, rfl, TR, hl, hlen, q⟩ := h
    refine ⟨_, (pss_cons (ps_set (i := 2) sc_Store_put_content.nd rfl (Or.inl rfl) (Kn.pe_cl C_content_key hr (by decide) (by rfl) (pa_cons (pv 1) pa_nil)))
      (pss_cons (ps_if (PW.pt (pw_and (pt_cmpR op_notN1 (pe_fld (pv 0) rfl) pe_non (nomark _)) (pw_and1 (pt_not (pt_val (Kn.pe_mt M_Store_has_content hr (by decide) (pv 0) (pa_cons (pv 2) pa_nil))))))) (pss_one Kn.ps_dead) pss_nil)
      (pss_cons (ps_dput (hu_of hr) (pe_fld (pv 0) rfl) (pv 2) (pv 1) rfl)
      (pss_one (ps_ret (pv 2)))))), ?_⟩
    refine q_asg (ev_c1 (a := l) (ea_cons (ev_var rfl) ea_nil) fun _ _ => hl) fun H1 e1 => ?_
    obtain ⟨⟨dx, r, hp⟩, hd⟩ := id (TR.mono e1)
    refine q_when (b := false) (et_is (et_and (a := false) (b := true) (et_is (et_notN (ev_fld (ev_var rfl) hp TC.cl TC.naj (fld_j d r))) (by simp)) fun z => nomatch z) rfl) (fun z => nomatch z) fun _ H2 e2 => ?_
    refine q_dputI (ev_var rfl) (fun H3 e3 => ev_fld (ev_var rfl) (e3 _ _ (e2 _ _ hp)) TC.cl TC.nat (fld_t d r)) (fun H3 e3 => ev_var rfl) (e2 _ _ hd) (by omega) fun H3 e3 => ?_
    have T3 := TR.mono ((e1.trans e2).trans e3)
    refine s_ret (ev_var rfl) fun H4 e4 => q H4 (T3.upd.mono e4) fun b o hb hne => e4 _ _ ?_
    rw [upd_ne hne]
    exact ((e1.trans e2).trans e3) _ _ hb
def sp_Store_content (C : Addr) (G : Gx K mg) : Sp := fun vs H Q E => ∃ (p d : Addr) (kvs : List (Key × V)) (k : Int), vs = [.ref p, .int k] ∧ Sto C H p d kvs ∧ Good kvs ∧
  (wholeB kvs k = false → Rzv H E G.c_MissingContent "key" (.int k)) ∧ (∀ l, wholeB kvs k = true → valV kvs (Sum.inl k) = some (.str (S l)) → Rt H (.str (S l)) Q)
theorem ok_Store_content {f C : Addr} {fd : FuncData} (F : Fun K "content" "Store.content" s_Store_content f fd) (T : Tx mg) (G : Gx K mg) (TC : Tc K C) (M_Store_has_content : Kn.Mt P w K mg base 2 C "has_content" (sp_Store_has_content C K)) (Z_MissingContent : Kn.Xk P w K mg base 1 "MissingContent" G.c_MissingContent (sp_I1v "key" K)) : FnOk P w K mg base (L2.CX P w) 3 f fd ["self", "key"] (sp_Store_content C G) := by
  refine F.okX sc_Store_content (fun vs H Q E h => ?_) (fun cdv A outer s H vs Q E hr h => ?_)
  · obtain ⟨p, d, kvs, k, rfl, _⟩ := h
    rfl
  · obtain ⟨p, d, kvs, k, rfl, TR, g, q1, q2⟩ := h
    refine ⟨_, (pss_cons (ps_if (pt_not (pt_val (Kn.pe_mt M_Store_has_content hr (by decide) (pv 0) (pa_cons (pv 1) pa_nil)))) (pss_one (Kn.ps_xk Z_MissingContent hr (by decide) rfl (takes_of rfl rfl rfl rfl) (by rfl) (pa_cons (pv 1) pa_nil))) pss_nil)
      (pss_one (ps_ret (pe_dget (hu_of hr) (pe_fld (pv 0) rfl) (pv 1) (fun _ _ => rfl))))), ?_⟩
    obtain ⟨⟨dx, r, hp⟩, hd⟩ := id TR
    refine q_when (b := !wholeB kvs k) (et_not (et_B (ev_meth (ev_var rfl) hp (fld_no d r (by decide +kernel) (by decide +kernel) (by decide +kernel)) (ea_cons (ev_var rfl) ea_nil) (has_sp TR g)))) (fun hb H1 e1 => ?_) fun hb H1 e1 => ?_
    · exact raise1v (W := fun cls d _ H => E cls d H) G.x_MissingContent.oe G.n_MissingContent_key (ev_var rfl) fun d H' e hd => q1 (nb hb) d H' (e1.trans e) hd
    · have hw := nf hb
      rcases g.look k with z | ⟨l, z, hl⟩
      · rw [whole_none z] at hw
        cases hw
      · exact s_ret (ev_dgetI (ev_fld (ev_var rfl) (e1 _ _ hp) TC.cl TC.nat (fld_t d r)) (ev_var rfl) (e1 _ _ hd) z) fun H2 e2 => q2 l hw z H2 (e1.trans e2)
def sp_Store__check_content (C : Addr) (G : Gx K mg) : Sp := fun vs H Q E => ∃ (p d : Addr) (kvs : List (Key × V)) (k : Int), vs = [.ref p, .int k] ∧ Sto C H p d kvs ∧
  ((valV kvs (Sum.inl k)).isSome = false → Rzv H E G.c_MissingContent "key" (.int k)) ∧ ((valV kvs (Sum.inl k)).isSome = true → Rt H .non Q)
theorem ok_Store__check_content {f C : Addr} {fd : FuncData} (F : Fun K "_check_content" "Store._check_content" s_Store__check_content f fd) (T : Tx mg) (G : Gx K mg) (TC : Tc K C) (Z_MissingContent : Kn.Xk P w K mg base 1 "MissingContent" G.c_MissingContent (sp_I1v "key" K)) : FnOk P w K mg base (L2.CX P w) 3 f fd ["self", "key"] (sp_Store__check_content C G) := by
  refine F.okX sc_Store__check_content (fun vs H Q E h => ?_) (fun cdv A outer s H vs Q E hr h => ?_)
  · obtain ⟨p, d, kvs, k, rfl, _⟩ := h
    rfl
  · obtain ⟨p, d, kvs, k, rfl, TR, q1, q2⟩ := h
    refine ⟨_, (pss_one (ps_if (pt_cmp (pc_dnotin (hu_of hr) (pv 1) (pe_fld (pv 0) rfl))) (pss_one (Kn.ps_xk Z_MissingContent hr (by decide) rfl (takes_of rfl rfl rfl rfl) (by rfl) (pa_cons (pv 1) pa_nil))) pss_nil)), ?_⟩
    obtain ⟨⟨dx, r, hp⟩, hd⟩ := id TR
    refine s_when (b := !(valV kvs (Sum.inl k)).isSome) (et_B (ev_dninI (ev_var rfl) (ev_fld (ev_var rfl) hp TC.cl TC.nat (fld_t d r)) hd)) (fun hb H1 e1 => ?_) fun hb H1 e1 => ?_
    · exact raise1v (W := fun cls d _ H => E cls d H) G.x_MissingContent.oe G.n_MissingContent_key (ev_var rfl) fun d H' e hd => q1 (nb hb) d H' (e1.trans e) hd
    · exact q2 (nf hb) H1 e1
def sp_Store_lose_content (C : Addr) (G : Gx K mg) : Sp := fun vs H Q E => ∃ (p d : Addr) (kvs : List (Key × V)) (k : Int), vs = [.ref p, .int k] ∧ Sto C H p d kvs ∧
  ((valV kvs (Sum.inl k)).isSome = false → Rzv H E G.c_MissingContent "key" (.int k)) ∧ ((valV kvs (Sum.inl k)).isSome = true → ∀ H', Sto C H' p d (dropK kvs (Sum.inl k)) → Keeps H H' d → Q .non H')
theorem ok_Store_lose_content {f C : Addr} {fd : FuncData} (F : Fun K "lose_content" "Store.lose_content" s_Store_lose_content f fd) (T : Tx mg) (G : Gx K mg) (TC : Tc K C) (M_Store__check_content : Kn.MtX P w K mg base 3 C "_check_content" (sp_Store__check_content C G)) : FnOk P w K mg base (L2.CX P w) 4 f fd ["self", "key"] (sp_Store_lose_content C G) := by
  refine F.okX sc_Store_lose_content (fun vs H Q E h => ?_) (fun cdv A outer s H vs Q E hr h => ?_)
  · obtain ⟨p, d, kvs, k, rfl, _⟩ := h
    rfl
  · obtain ⟨p, d, kvs, k, rfl, TR, q1, q2⟩ := h
    refine ⟨_, (pss_cons (ps_expr (Kn.pe_mtX M_Store__check_content hr (by decide) (takes_of rfl rfl rfl rfl) (pv 0) (pa_cons (pv 1) pa_nil)))
      (pss_one (ps_ddel (pe_fld (pv 0) rfl) (pv 1)))), ?_⟩
    obtain ⟨⟨dx, r, hp⟩, hd⟩ := id TR
    refine ⟨_, rfl, p, dx, _, rfl, hp, fld_no d r (by decide +kernel) (by decide +kernel) (by decide +kernel), ?_⟩
    refine ea_cons (ev_var rfl) ea_nil H (Ex.refl _) _ fun H1 e1 => ?_
    refine ⟨p, d, kvs, k, rfl, TR.mono e1, fun hb d2 H2 e2 hd2 => q1 hb d2 H2 (e1.trans e2) hd2, fun hb H2 e2 => ?_⟩
    have T2 := TR.mono (e1.trans e2)
    obtain ⟨⟨dx, r, hp⟩, hd⟩ := id T2
    refine s_ddelI (ev_fld (ev_var rfl) hp TC.cl TC.nat (fld_t d r)) (fun H3 e3 => ev_var rfl) hd hb fun H3 e3 => q2 hb _ (T2.mono e3).upd fun b o hb hne => ?_
    rw [upd_ne hne]
    exact ((e1.trans e2).trans e3) _ _ hb
def sp_Store_damage_content (C : Addr) (G : Gx K mg) : Sp := fun vs H Q E => ∃ (p d : Addr) (kvs : List (Key × V)) (k : Int) (l : List Nat), vs = [.ref p, .int k, .str (S l)] ∧ Sto C H p d kvs ∧ kvs.length < 1000 ∧
  ((valV kvs (Sum.inl k)).isSome = false → Rzv H E G.c_MissingContent "key" (.int k)) ∧ ((valV kvs (Sum.inl k)).isSome = true → ∀ H', Sto C H' p d (putK kvs (Sum.inl k) (.str (S l))) → Keeps H H' d → Q .non H')
theorem ok_Store_damage_content {f C : Addr} {fd : FuncData} (F : Fun K "damage_content" "Store.damage_content" s_Store_damage_content f fd) (T : Tx mg) (G : Gx K mg) (TC : Tc K C) (M_Store__check_content : Kn.MtX P w K mg base 3 C "_check_content" (sp_Store__check_content C G)) : FnOk P w K mg base (L2.CX P w) 4 f fd ["self", "key", "text"] (sp_Store_damage_content C G) := by
  refine F.okX sc_Store_damage_content (fun vs H Q E h => ?_) (fun cdv A outer s H vs Q E hr h => ?_)
  · obtain ⟨p, d, kvs, k, l, rfl, _⟩ := h
    rfl
  · obtain ⟨p, d, kvs, k, l, rfl, TR, hlen, q1, q2⟩ := h
    refine ⟨_, (pss_cons (ps_expr (Kn.pe_mtX M_Store__check_content hr (by decide) (takes_of rfl rfl rfl rfl) (pv 0) (pa_cons (pv 1) pa_nil)))
      (pss_one (ps_dput (hu_of hr) (pe_fld (pv 0) rfl) (pv 1) (pv 2) rfl))), ?_⟩
    obtain ⟨⟨dx, r, hp⟩, hd⟩ := id TR
    refine ⟨_, rfl, p, dx, _, rfl, hp, fld_no d r (by decide +kernel) (by decide +kernel) (by decide +kernel), ?_⟩
    refine ea_cons (ev_var rfl) ea_nil H (Ex.refl _) _ fun H1 e1 => ?_
    refine ⟨p, d, kvs, k, rfl, TR.mono e1, fun hb d2 H2 e2 hd2 => q1 hb d2 H2 (e1.trans e2) hd2, fun hb H2 e2 => ?_⟩
    have T2 := TR.mono (e1.trans e2)
    obtain ⟨⟨dx, r, hp⟩, hd⟩ := id T2
    refine s_dputI (ev_var rfl) (fun H3 e3 => ev_fld (ev_var rfl) (e3 _ _ hp) TC.cl TC.nat (fld_t d r)) (fun H3 e3 => ev_var rfl) hd (by omega) fun H3 e3 => q2 hb _ (T2.mono e3).upd fun b o hb hne => ?_
    rw [upd_ne hne]
    exact ((e1.trans e2).trans e3) _ _ hb
def sp_Store_content_keys (C : Addr) (_ : PySem.W.Frag) : Sp := fun vs H Q _ => ∃ (p d : Addr) (kvs : List (Key × V)) (ks : List Int), vs = [.ref p] ∧ Sto C H p d kvs ∧ kvs.map (·.1) = ks.map Sum.inl ∧ ks.length < 64 ∧ ∀ ys : List Int, ys.Perm ks → ys.Pairwise (· ≤ ·) → Rl H (ys.map V.int) Q
theorem ok_Store_content_keys {f C : Addr} {fd : FuncData} (F : Fun K "content_keys" "Store.content_keys" s_Store_content_keys f fd) (T : Tx mg) (G : Gx K mg) (TC : Tc K C)  : FnOk P w K mg base CX0 1 f fd ["self"] (sp_Store_content_keys C K) := by
  refine F.ok sc_Store_content_keys (fun vs H Q E h => ?_) (fun cdv A outer s H vs Q E hr h => ?_)
  · obtain ⟨p, d, kvs, ks, rfl, _⟩ := h
    rfl
  · obtain ⟨p, d, kvs, ks, rfl, TR, hk, hl, q⟩ := h
    refine ⟨_, (pss_one (ps_ret (pe_callB (Kn.cr_sortDI rfl) (by rfl) T.b_sorted (by decide +kernel) (pa_cons (pe_fld (pv 0) rfl) pa_nil)))), ?_⟩
    obtain ⟨⟨dx, r, hp⟩, hd⟩ := id TR
    refine ev_fld (ev_var rfl) hp TC.cl TC.nat (fld_t d r) H (Ex.refl _) _ fun H1 e1 => ⟨d, kvs, ks, rfl, .inl (e1 _ _ hd), hk, hl, fun ys l hperm hs hn => ?_⟩
    exact q ys hperm hs l _ (fresh_back e1 hn) (e1.trans (Ex.new hn)) upd_same
end

section
variable {P : Program} {w : World} {K : PySem.W.Frag} {mg : Str → Option Value} {base : Heap}
def sp__law_cell (K : PySem.W.Frag) : Sp := sp3 (fun (a : Addr) (_ : List Int) (k : Nat) => [.ref a, .int (k : Int)]) (fun a ns _ H => SqL K H a (ns.map V.int)) (fun _ ns k => .int (L2.cellOf ns k))
theorem ok__law_cell {f : Addr} {fd : FuncData} (F : Fun K "_law_cell" "_law_cell" s__law_cell f fd) (T : Tx mg) (G : Gx K mg)  : FnOk P w K mg base CX0 1 f fd ["script", "k"] (sp__law_cell K) := by
  refine F.ok sc__law_cell (fun vs H Q E h => ?_) (fun cdv A outer s H vs Q E hr h => ?_)
  · obtain ⟨a, ns, k, rfl, _⟩ := h
    rfl
  · obtain ⟨a, ns, k, rfl, hS, q⟩ := h
    refine ⟨_, (pss_cons (ps_if (pt_cmpR op_lt (pv 1) (pe_callB Kn.cr_lenSeq (by rfl) T.b_len PySem.boot_len (pa_cons (pv 0) pa_nil)) (nomark _)) (pss_one (ps_ret (pe_ix ix_list (pv 0) (pv 1) (fun _ _ => rfl)))) pss_nil)
      (pss_one (ps_ret pe_int))), ?_⟩
    refine q_when (et_test (ev_op (ev_var rfl) (ev_len (ev_var rfl) hS) rv_lt)) (fun hb H1 e1 => ?_) (fun hb H1 e1 => ?_)
    · have hk : k < ns.length := by
        rw [List.length_map, decide_eq_true_eq] at hb
        omega
      exact s_ret (ev_op (ev_var rfl) (ev_var rfl) (rv_ixL (ex_l e1 hS) (atI_cell hk))) fun H2 e2 => q H2 (e1.trans e2)
    · have hk : ¬ k < ns.length := by
        rw [List.length_map, decide_eq_false_iff_not] at hb
        omega
      refine s_ret ev_c fun H2 e2 => ?_
      have z : Q (.int (L2.cellOf ns k)) H2 := q H2 (e1.trans e2)
      rw [cell_out hk] at z
      exact z
/-! ### drawn numbers: all that is asked of them is that they are below 1000 -/
def sp__law_numbers (_ : PySem.W.Frag) : Sp := fun vs H Q _ => ∃ (c : Int) (n : Nat), vs = [.int c, .int (n : Int)] ∧ n ≤ 1000 ∧ ∀ ns : List Nat, ns.length = n → (∀ x ∈ ns, x < 1000) → Rl H (ns.map fun x : Nat => V.int (x : Int)) Q
theorem nums_snoc {ns : List Nat} {z : Int} {n : Nat} (hz : z = (n : Int)) : (ns.map fun x : Nat => V.int (x : Int)) ++ [V.int z] = (ns ++ [n]).map fun x : Nat => V.int (x : Int) := by
  rw [List.map_append, hz]
  rfl
theorem nums_lt {ns : List Nat} {n : Nat} (h : ∀ x ∈ ns, x < 1000) (hn : n < 1000) : ∀ x ∈ ns ++ [n], x < 1000 := fun x hx => by
  rcases List.mem_append.mp hx with z | z
  · exact h x z
  · rw [List.mem_singleton.mp z]
    exact hn
theorem ok__law_numbers {f : Addr} {fd : FuncData} (F : Fun K "_law_numbers" "_law_numbers" s__law_numbers f fd) (T : Tx mg) (G : Gx K mg)  : FnOk P w K mg base CX0 1 f fd ["cell", "count"] (sp__law_numbers K) := by
  refine F.ok sc__law_numbers (fun vs H Q E h => ?_) (fun cdv A outer s H vs Q E hr h => ?_)
  · obtain ⟨c, n, rfl, _⟩ := h
    rfl
  · obtain ⟨c, n, rfl, hn, q⟩ := h
    refine ⟨_, (pss_cons (ps_set (i := 2) sc__law_numbers.nd rfl (Or.inl rfl) (pe_callB Kn.cr_abs (by rfl) T.b_abs (by decide +kernel) (pa_cons (pe_callTy Kn.cr_int1 (by rfl) T.b_int (by decide +kernel) (pa_cons (pv 0) pa_nil)) pa_nil)))
      (pss_cons (ps_set (i := 3) sc__law_numbers.nd rfl (Or.inl rfl) (pe_cmpR op_ge (pv 2) pe_int (nomark _)))
      (pss_cons (ps_set (i := 4) sc__law_numbers.nd rfl (Or.inl rfl) (pe_op op_add (pe_op op_mod (pe_callTy Kn.cr_int1 (by rfl) T.b_int (by decide +kernel) (pa_cons (pv 2) pa_nil)) pe_int) pe_int))
      (pss_cons (ps_set (i := 5) sc__law_numbers.nd rfl (Or.inl rfl) (pe_lst pa_nil))
      (pss_cons (ps_for PassesOwn.never rfl (pi_range1 rfl T.b_range (pa_cons (pv 1) pa_nil)) (pg_name (i := 6) sc__law_numbers.nd rfl (Or.inl rfl)) (pss_cons (ps_set (i := 4) sc__law_numbers.nd rfl (Or.inl rfl) (pe_op op_mod (pe_callTy Kn.cr_int1 (by rfl) T.b_int (by decide +kernel) (pa_cons (pe_op op_add (pe_op op_add (pe_op op_mul (pv 4) pe_int) (pe_op op_mul (pv 6) pe_int)) pe_int) pa_nil)) pe_int))
      (pss_one (ps_if (PW.pt (pw_and (pt_val (pv 3)) (pw_and1 (pt_cmpR op_gt (pv 2) pe_int (nomark _))))) (pss_cons (ps_expr (pe_bm PySem.F.plainAttrs_list PySem.F.slot_list_append PySem.F.type_list_append mt_append (pv 5) (pa_cons (pe_op op_mod (pe_callTy Kn.cr_int1 (by rfl) T.b_int (by decide +kernel) (pa_cons (pv 2) pa_nil)) pe_int) pa_nil)))
      (pss_one (ps_set (i := 2) sc__law_numbers.nd rfl (Or.inl rfl) (pe_op op_fdiv (pv 2) pe_int)))) (pss_one (ps_expr (pe_bm PySem.F.plainAttrs_list PySem.F.slot_list_append PySem.F.type_list_append mt_append (pv 5) (pa_cons (pe_op op_mod (pe_callTy Kn.cr_int1 (by rfl) T.b_int (by decide +kernel) (pa_cons (pe_op op_fdiv (pv 4) pe_int) pa_nil)) pe_int) pa_nil))))))))
      (pss_one (ps_ret (pv 5)))))))), ?_⟩
    refine q_asg (v := .int (c.natAbs : Int)) (ev_cb (ea_cons (ev_cb (ea_cons (ev_var rfl) ea_nil) rc_int) ea_nil) rc_abs) fun H1 e1 => ?_
    refine q_asg (ev_op (ev_var rfl) ev_c rv_ge) fun H2 e2 => ?_
    refine q_asg (ev_op (ev_op (ev_cb (ea_cons (ev_var rfl) ea_nil) rc_int) ev_c (rv_mod (by decide))) ev_c rv_I0) fun H3 e3 => ?_
    refine q_asgL (el_lst ea_nil (by show 0 ≤ 100000; decide)) fun pr H4 npr e4 hpr => ?_
    have e14 := ((e1.trans e2).trans e3).trans e4
    have npr0 : H pr = none := fresh_back ((e1.trans e2).trans e3) npr
    generalize decide ((1000000000000000000 : Int) ≤ (c.natAbs : Int)) = b
    refine q_forR1 (n := (n : Int)) (ea_cons (ev_var rfl) ea_nil) (by omega) (fun i σ' H' => ∃ (r m : Int) (ns : List Nat) (y : Option V), σ' = [some (.int c), some (.int (n : Int)), some (.int r), some (.bl b), some (.int m), some (.ref pr), y] ∧ 0 ≤ r ∧ (0 ≤ m ∧ m < 1000000000000) ∧ Ex H H' ∧ H' pr = some (.lst (ns.map fun x : Nat => V.int (x : Int))) ∧ ns.length = i ∧ ∀ x ∈ ns, x < 1000) (fun H5 e5 => ⟨_, _, [], _, rfl, by omega, by omega, e14.trans e5, e5 _ _ hpr, rfl, fun _ h => nomatch h⟩) ?_ ?_
    · rintro i σ' H' hi ⟨r, m, ns, y, rfl, hr0, hm, eH, hp, hl, hlt⟩
      refine q_asg (v := .int ((m * 48271 + (i : Int) * 69621 + 7) % 2147483647)) (ev_op (ev_cb (ea_cons (ev_op (ev_op (ev_op (ev_var rfl) ev_c (rv_mul (.inr ⟨by decide, by decide⟩))) (ev_op (ev_var rfl) ev_c (rv_mul (.inr ⟨by decide, by decide⟩))) rv_I0) ev_c rv_I0) ea_nil) rc_int) ev_c (rv_mod (by decide))) fun H5 e5 => ?_
      have hm2 : 0 ≤ (m * 48271 + (i : Int) * 69621 + 7) % 2147483647 ∧ (m * 48271 + (i : Int) * 69621 + 7) % 2147483647 < 1000000000000 := by omega
      generalize (m * 48271 + (i : Int) * 69621 + 7) % 2147483647 = m' at hm2
      refine s_if (b := b && decide ((0 : Int) < r)) (et_and (et_B (ev_var rfl)) fun _ => et_test (ev_op (ev_var rfl) ev_c rv_gt)) (fun hb H6 e6 => ?_) (fun hb H6 e6 => ?_)
      · refine q_app ((e5.trans e6) _ _ hp) (ev_var rfl) (ev_op (ev_cb (ea_cons (ev_var rfl) ea_nil) rc_int) ev_c (rv_mod (by decide))) (by rw [List.length_map]; omega) fun H7 e7 => ?_
        have e57 := (eH.trans (e5.trans e6)).trans e7
        refine s_asg (ev_op (ev_var rfl) ev_c (rv_fdiv ⟨by decide, by decide⟩)) fun H8 e8 => ⟨r / 1000, m', ns ++ [(r % 1000).toNat], _, rfl, by omega, hm2, (Ex.mut e57 npr0).trans e8, ?_, by rw [List.length_append, hl]; rfl, nums_lt hlt (by omega)⟩
        rw [e8 _ _ upd_same, nums_snoc (n := (r % 1000).toNat) (by omega)]
      · refine s_app ((e5.trans e6) _ _ hp) (ev_var rfl) (ev_op (ev_cb (ea_cons (ev_op (ev_var rfl) ev_c (rv_fdiv ⟨by decide, by decide⟩)) ea_nil) rc_int) ev_c (rv_mod (by decide))) (by rw [List.length_map]; omega) fun H7 e7 => ?_
        have e57 := (eH.trans (e5.trans e6)).trans e7
        refine ⟨r, m', ns ++ [(m' / 13 % 1000).toNat], _, rfl, hr0, hm2, Ex.mut e57 npr0, ?_, by rw [List.length_append, hl]; rfl, nums_lt hlt (by omega)⟩
        rw [upd_same, nums_snoc (n := (m' / 13 % 1000).toNat) (by omega)]
    · rintro σ' H' ⟨r, m, ns, y, rfl, hr0, hm, eH, hp, hl, hlt⟩
      refine s_ret (ev_var rfl) fun H5 e5 => q ns (by rw [hl, Int.toNat_natCast]) hlt pr H5 npr0 (eH.trans e5) (e5 _ _ hp)
def lettersL : List Nat := (Str.ofString "abcdefghijklmnopqrstuvwxyz ~\n").cps.toList
def textN (n size : Nat) : List Nat := (List.range (n % size)).map fun k => lettersL.getD ((n + 3 * k) % 29) 0
theorem letters_ok : ∀ j < 29, lettersL[j]? = some (lettersL.getD j 0) ∧ lettersL.getD j 0 < 128 := by decide +kernel
theorem text_tk {n size : Nat} (hn : n < 12) (hs : 0 < size) : Tk (textN n size) := by
  unfold textN
  refine ⟨?_, fun c hc => ?_⟩
  · rw [List.length_map, List.length_range]
    have := Nat.mod_le n size
    omega
  · obtain ⟨k, _, rfl⟩ := List.mem_map.mp hc
    exact (letters_ok _ (Nat.mod_lt _ (by decide))).2
theorem sum_ones {α : Type} (f : α → Nat) : ∀ l : List α, ((l.map fun k => [f k]).map (·.length)).sum = l.length
  | [] => rfl
  | x :: r => by
    rw [List.map_cons, List.map_cons, List.sum_cons, sum_ones f r]
    show 1 + r.length = r.length + 1
    omega
theorem flat_ones {α : Type} (f : α → Nat) : ∀ l : List α, (l.map fun k => [f k]).flatten = l.map f
  | [] => rfl
  | x :: r => by
    rw [List.map_cons, List.flatten_cons, flat_ones f r]
    rfl
def sp__law_text (_ : PySem.W.Frag) : Sp := sp2 (fun n size : Nat => [.int (n : Int), .int (size : Int)]) (fun n size _ => n < 12 ∧ 0 < size) (fun n size => .str (S (textN n size)))
theorem ok__law_text {f : Addr} {fd : FuncData} (F : Fun K "_law_text" "_law_text" s__law_text f fd) (T : Tx mg) (G : Gx K mg)  : FnOk P w K mg base CX0 1 f fd ["n", "size"] (sp__law_text K) := by
  refine F.ok sc__law_text (fun vs H Q E h => ?_) (fun cdv A outer s H vs Q E hr h => ?_)
  · obtain ⟨n, size, rfl, _⟩ := h
    rfl
  · obtain ⟨n, size, rfl, ⟨hn, hs⟩, q⟩ := h
    refine ⟨_, (pss_cons (ps_set (i := 2) sc__law_text.nd rfl (Or.inr rfl) pe_str)
      (pss_one (ps_ret (Kn.pe_joinN (pe_join pe_str (pe_lc (own := [("k", 3)]) rfl sc__law_text.nd (pi_range1 rfl T.b_range (pa_cons (pe_op op_mod (pe_callTy Kn.cr_int1 (by rfl) T.b_int (by decide +kernel) (pa_cons (pv 0) pa_nil)) (pv 1)) pa_nil)) (blkOk_by (own := [("k", 3)]) (N := N__law_text) (sc := defScope s__law_text) (by decide +kernel)) (fun _ _ _ _ _ => pg_name (i := 3) sc__law_text.nd rfl (Or.inl rfl)) (fun _ _ _ _ _ => pts_nil) (fun _ _ _ _ _ => (pe_ix ix_str (pv 2) (pe_op op_mod (pe_callTy Kn.cr_int1 (by rfl) T.b_int (by decide +kernel) (pa_cons (pe_op op_add (pv 0) (pe_op op_mul pe_int (pv 3))) pa_nil)) pe_int) (fun _ _ => rfl))))))))), ?_⟩
    refine q_asg (ev_cS (l := lettersL) rfl) fun H1 e1 => ?_
    have hle := Nat.mod_le n size
    refine s_ret (v := .str (S (textN n size))) (ev_is (ev_join (s := []) (ys := (List.range (n % size)).map fun k => [lettersL.getD ((n + 3 * k) % 29) 0]) (ev_cS rfl) ?_ ?_) ?_) fun H2 e2 => q H2 (e1.trans e2)
    · rw [List.map_map]
      have h := el_lcR (σ := [some (.int (n : Int)), some (.int (size : Int)), some (.str (S lettersL)), none]) (H := H1) (te := tOp rIxS (tVar 2) (tOp (rI (fun _ j => 0 < j) fun i j => .int (i % j)) (tCB rInt1 (tCons (tOp (rI0 fun i j => .int (i + j)) (tVar 0) (tOp (rI CMul fun i j => .int (i * j)) (tC (.int 3)) (tVar 3))) tNil)) (tC (.int 29)))) (ta := tCons (tOp (rI (fun _ j => 0 < j) fun i j => .int (i % j)) (tCB rInt1 (tCons (tVar 0) tNil)) (tVar 1)) tNil) (j := 3) (vs := [3]) (n := ((n % size : Nat) : Int)) (f := fun k => .str (S [lettersL.getD ((n + 3 * k) % 29) 0]))
        (ea_cons (ev_is (ev_op (ev_cb (ea_cons (ev_var rfl) ea_nil) rc_int) (ev_var rfl) (rv_mod (by omega))) (by rw [Int.natCast_emod])) ea_nil) (by omega) (fun _ => rfl) fun k H2 e2 hk => ?_
      · rw [Int.toNat_natCast] at h
        exact h
      · exact ev_idxS (l := lettersL) (ev_var rfl) (ev_op (ev_cb (ea_cons (ev_op (ev_var rfl) (ev_op ev_c (ev_var rfl) (rv_mul (.inl ⟨by decide, by decide⟩))) rv_I0) ea_nil) rc_int) ev_c (rv_mod (by decide))) (by decide +kernel) (atI_nat' (j := (n + 3 * k) % 29) (by omega) (letters_ok _ (Nat.mod_lt _ (by decide))).1)
    · rw [sum_ones, List.length_range, List.length_nil, Nat.mul_zero]
      omega
    · rw [Kn.join_nil, flat_ones]
      rfl
/-! ### a store is asked -/
theorem evd_keys {C p d : Addr} {H : Hp} {σ : L2.St} {ta : TE} {kvs : List (Key × V)} {ks ys : List Int} (ha : Ev ta σ H (.ref p)) (TR : Sto C H p d kvs) (hk : kvs.map (·.1) = ks.map Sum.inl) (hn : ks.length < 64) (hp : ys.Perm ks) (hs : ys.Pairwise (· ≤ ·)) :
    EvD (tMeth C "content_keys" (sp_Store_content_keys C K) [] E0 ta tNil) σ H (.list (ys.map .int)) := fun H1 e Q q =>
  ha H1 e _ fun H2 e2 => by
    obtain ⟨⟨dx, r, hpp⟩, hd⟩ := id (TR.mono (e.trans e2))
    refine ⟨p, dx, _, rfl, hpp, fld_no d r (by decide +kernel) (by decide +kernel) (by decide +kernel), p, d, kvs, ks, rfl, TR.mono (e.trans e2), hk, hn, fun zs hz hsz pl H3 npl e3 hl => ?_⟩
    have := ints_uniq hsz hs (hz.trans hp.symm)
    subst this
    exact q _ _ (e2.trans e3) (.lst hl (dta_ints _))
def sp__law_asked (C : Addr) (_ : Gx K mg) : Sp := fun vs H Q _ => ∃ (p d a kl : Addr) (kvs : List (Key × V)) (keys : List Int), vs = [.ref p, .ref a, .ref kl] ∧ Sto C H p d kvs ∧ H a = some (.dK kvs) ∧ Good kvs ∧ kvs.length < 64 ∧ SqL K H kl (keys.map V.int) ∧ Rt H (.bl true) Q
theorem ok__law_asked {f C : Addr} {fd : FuncData} (F : Fun K "_law_asked" "_law_asked" s__law_asked f fd) (T : Tx mg) (G : Gx K mg) (TC : Tc K C) (M_Store_content_keys : Kn.Mt P w K mg base 1 C "content_keys" (sp_Store_content_keys C K)) (M_Store_has_content : Kn.Mt P w K mg base 2 C "has_content" (sp_Store_has_content C K)) (M_Store_content : Kn.MtX P w K mg base 3 C "content" (sp_Store_content C G)) (C_content_key : Kn.Cl P w K mg base 1 "content_key" (sp_content_key K)) : FnOk P w K mg base CX0 4 f fd ["store", "kept", "keys"] (sp__law_asked C G) := by
  refine F.ok sc__law_asked (fun vs H Q E h => ?_) (fun cdv A outer s H vs Q E hr h => ?_)
  · obtain ⟨p, d, a, kl, kvs, keys, rfl, _⟩ := h
    rfl
  · obtain ⟨p, d, a, kl, kvs, keys, rfl, TR, ha, g, hlen, hkl, q⟩ := h
    refine ⟨_, (pss_cons (ps_set (i := 3) sc__law_asked.nd rfl (Or.inl rfl) (Kn.pe_mt0 M_Store_content_keys hr (by decide) (pv 0)))
      (pss_cons (ps_if (PW.pt (pw_or (pt_not (pt_val (pe_callB Kn.cr_isi (by rfl) T.b_isinstance (by decide +kernel) (pa_cons (pv 3) (pa_cons (pe_bltn (v := .ty "list") (by rfl) T.b_list (by decide +kernel) rfl) pa_nil))))) (pw_or1 (pt_cmpR (op_neD hr.units) (pv 3) (pe_callB (Kn.cr_sortDI rfl) (by rfl) T.b_sorted (by decide +kernel) (pa_cons (pv 1) pa_nil)) (nomark _))))) (pss_one (ps_ret pe_bl)) pss_nil)
      (pss_cons (ps_expr (pe_bm PySem.F.plainAttrs_list PySem.F.slot_list_append PySem.F.type_list_append mt_append (pv 3) (pa_cons pe_int pa_nil)))
      (pss_cons (ps_if (pt_cmpR (op_neD hr.units) (Kn.pe_mt0 M_Store_content_keys hr (by decide) (pv 0)) (pe_callB (Kn.cr_sortDI rfl) (by rfl) T.b_sorted (by decide +kernel) (pa_cons (pv 1) pa_nil)) (nomark _)) (pss_one (ps_ret pe_bl)) pss_nil)
      (pss_cons (ps_for PassesOwn.never rfl (pi_list (pv 2)) (pg_name (i := 4) sc__law_asked.nd rfl (Or.inl rfl)) (pss_cons (ps_set (i := 5) sc__law_asked.nd rfl (Or.inl rfl) (pe_and (pe_cmp (pc_din (hu_of hr) (pv 4) (pv 1)) rfl) (pe_one (pe_cmpR op_eq (Kn.pe_cl C_content_key hr (by decide) (by rfl) (pa_cons (pe_dget (hu_of hr) (pv 1) (pv 4) (fun _ _ => rfl)) pa_nil)) (pv 4) (nomark _)))))
      (pss_cons (ps_if (PW.pt (pw_or (pt_cmpR op_ne (Kn.pe_mt M_Store_has_content hr (by decide) (pv 0) (pa_cons (pv 4) pa_nil)) (pv 5) (nomark _)) (pw_or1 (pt_not (pt_val (pe_callB Kn.cr_isi (by rfl) T.b_isinstance (by decide +kernel) (pa_cons (Kn.pe_mt M_Store_has_content hr (by decide) (pv 0) (pa_cons (pv 4) pa_nil)) (pa_cons (pe_bltn (v := .ty "bool") (by rfl) T.b_bool (by decide +kernel) rfl) pa_nil)))))))) (pss_one (ps_ret pe_bl)) pss_nil)
      (pss_cons (ps_try_as (i := 7) (tb := fun W => (tAsg (tMethX C "content" (sp_Store_content C G) (WE W) (tVar 0) (tCons (tVar 4) tNil)) (gName 6))) (ts := fun a cls d => (tSeq (tIfS (tOr (tB (tVar 5)) (tOr (tTest (tOp rNe (tXf a cls d G.c_MissingContent "key" (tVar 7)) (tVar 4))) (tNot (tB (tCB (rIsX K a cls d) (tCons (tVar 7) (tCons (tC (.ref G.c_BuildError)) tNil))))))) (tRet (tC (.bl false))) tNext) tCont)) (Wout := (fun _ _ _ _ => False)) rfl rfl sc__law_asked.nd rfl rfl ⟨rfl, by decide, Or.inl G.g_MissingContent⟩ takes0
      (fun W pn xe tk po => (pss_one (ps_set (i := 6) sc__law_asked.nd rfl (Or.inl rfl) (Kn.pe_mtX M_Store_content hr (by decide) tk (pv 0) (pa_cons (pv 4) pa_nil)))))
      (fun a oe cls d pn hz hf => (pss_cons (ps_if (PW.pt (pw_or (pt_val (pv 5)) (pw_or (pt_cmpR op_ne (pe_xf G.x_MissingContent.xf G.n_MissingContent_key hz hf (pv 7)) (pv 4) (nomark _)) (pw_or1 (pt_not (pt_val (pe_callB (Kn.cr_isX hz hf) rfl T.b_isinstance (by decide +kernel) (pa_cons (pv 7) (pa_cons (pe_glob rfl G.g_BuildError rfl) pa_nil))))))))) (pss_one (ps_ret pe_bl)) pss_nil)
      (pss_one ps_continue))))
      (pss_one (ps_if (PW.pt (pw_or (pt_not (pt_val (pv 5))) (pw_or1 (pt_cmpR op_ne (pv 6) (pe_dget (hu_of hr) (pv 1) (pv 4) (fun _ _ => rfl)) (nomark _))))) (pss_one (ps_ret pe_bl)) pss_nil))))))
      (pss_one (ps_ret pe_bl))))))), ?_⟩
    obtain ⟨ks, hks⟩ := g.keys
    have hkn : ks.length < 64 := by
      have := congrArg List.length hks
      rw [List.length_map, List.length_map] at this
      omega
    obtain ⟨⟨dx, r, hp⟩, hd⟩ := id TR
    refine ⟨_, rfl, p, dx, _, rfl, hp, fld_no d r (by decide +kernel) (by decide +kernel) (by decide +kernel), p, d, kvs, ks, rfl, TR, hks, hkn, fun ys hperm hsort pl H1 npl e1 hl => ?_⟩
    have hsh := shaped_ints ys
    refine q_when (b := false) (et_is (et_or (a := false) (b := false) (et_not (a := true) (et_B (ev_isiL (ev_var rfl) hl))) fun _ => et_is (et_test (ev_neD (d := .list (ys.map .int)) (e' := .list (ys.map .int)) (evd_of (ev_var rfl) (.lst hl (dta_ints _))) (evd_sortDI (ev_var rfl) (e1 _ _ ha) hks hkn hperm hsort) hsh hsh)) (by rw [eqv_self hsh]; rfl)) rfl) (fun z => nomatch z) fun _ H2 e2 => ?_
    refine q_app (e2 _ _ hl) (ev_var rfl) ev_c (by rw [List.length_map, hperm.length_eq]; omega) fun H3 e3 => ?_
    have e4 : Ex H (L2.upd H3 pl (.lst (ys.map V.int ++ [V.int 0]))) := Ex.mut ((e1.trans e2).trans e3) npl
    generalize L2.upd H3 pl (.lst (ys.map V.int ++ [V.int 0])) = H4 at e4
    refine q_when (b := false) (et_is (et_test (ev_neD (d := .list (ys.map .int)) (e' := .list (ys.map .int)) (evd_keys (ev_var rfl) (TR.mono e4) hks hkn hperm hsort) (evd_sortDI (ev_var rfl) (e4 _ _ ha) hks hkn hperm hsort) hsh hsh)) (by rw [eqv_self hsh]; rfl)) (fun z => nomatch z) fun _ H5 e5 => ?_
    have e05 := e4.trans e5
    refine q_forLn (xs := keys.map V.int) (ev_var rfl) (ex_l e05 hkl) (fun i σ' H' => ∃ y4 y5 y6 y7, σ' = [some (.ref p), some (.ref a), some (.ref kl), some (.ref pl), y4, y5, y6, y7] ∧ Ex H H') (fun H6 e6 => ⟨_, _, _, _, rfl, e05.trans e6⟩) (fun i σ' H' _ ⟨_, _, _, _, _, h⟩ => ex_l h hkl) ?_ ?_
    · rintro i x σ' H6 hx ⟨y4, y5, y6, y7, rfl, e6⟩
      rw [List.getElem?_map] at hx
      obtain ⟨k, _, rfl⟩ := Option.map_eq_some_iff.mp hx
      refine q_asg (ev_whole g (ev_var rfl) (ev_var rfl) (e6 _ _ ha)) fun H7 e7 => ?_
      have T7 := TR.mono (e6.trans e7)
      obtain ⟨⟨dx, r, hp⟩, hd⟩ := id T7
      have hm := ev_meth (C := C) (z := .bl (wholeB kvs k)) (ta := tVar 0) (t := tCons (tVar 4) tNil) (m := "has_content") (E := E0) (σ := [some (.ref p), some (.ref a), some (.ref kl), some (.ref pl), some (.int k), some (.bl (wholeB kvs k)), y6, y7]) (ev_var rfl) hp (fld_no d r (by decide +kernel) (by decide +kernel) (by decide +kernel)) (ea_cons (ev_var rfl) ea_nil) (has_sp (K := K) T7 g)
      refine q_when (b := false) (et_is (et_or (a := false) (b := false) (et_test (ev_op hm (ev_var rfl) rv_neBB)) fun _ => et_not (a := true) (et_B (ev_isiB hm))) rfl) (fun z => nomatch z) fun _ H8 e8 => ?_
      have e08 := (e6.trans e7).trans e8
      have T8 := TR.mono e08
      obtain ⟨⟨dx, r, hp⟩, hd⟩ := id T8
      refine ⟨_, rfl, p, dx, _, rfl, hp, fld_no d r (by decide +kernel) (by decide +kernel) (by decide +kernel), ?_⟩
      refine ea_cons (ev_var rfl) ea_nil H8 (Ex.refl _) _ fun H9 e9 => ?_
      refine ⟨p, d, kvs, k, rfl, T8.mono e9, g, fun hb dd H10 e10 hdd => ?_, fun l hb hv H10 e10 => ?_⟩
      · refine as_hit G.x_MissingContent.me fun ex nex => ?_
        refine q_when (b := false) (et_is (et_or (a := false) (b := false) (et_is (et_B (ev_var rfl)) hb) fun _ => et_or (a := false) (b := false) (et_is (et_test (ev_op (ev_xf rfl hdd rfl) (ev_var rfl) rv_neI)) (by rw [decide_eq_true rfl]; rfl)) fun _ => et_not (a := true) (et_B (ev_isX G.x_MissingContent rfl hdd))) rfl) (fun z => nomatch z) fun _ H11 e11 => ?_
        exact ⟨_, _, _, _, rfl, ((e08.trans e9).trans e10).trans e11⟩
      · have e010 := (e08.trans e9).trans e10
        refine s_when (b := false) (et_is (et_or (a := false) (b := false) (et_is (et_not (et_B (ev_var rfl))) (by rw [hb]; rfl)) fun _ => et_is (et_test (ev_op (ev_var rfl) (ev_dgetI (ev_var rfl) (ev_var rfl) (e010 _ _ ha) hv) rv_neS)) (by rw [decide_eq_true rfl]; rfl)) rfl) (fun z => nomatch z) fun _ H11 e11 => ⟨_, _, _, _, rfl, e010.trans e11⟩
    · rintro σ' H6 ⟨y4, y5, y6, y7, rfl, e6⟩
      exact s_ret ev_c fun H7 e7 => q H7 (e6.trans e7)
end

section
variable {P : Program} {w : World} {K : PySem.W.Frag} {mg : Str → Option Value} {base : Heap}
/-! ### a deed on a store and on the law's dict -/
def Keeps2 (H H' : Hp) (d a : Addr) : Prop := ∀ b o, H b = some o → b ≠ d → b ≠ a → H' b = some o
def sp__law_deed (C : Addr) (_ : Gx K mg) : Sp := fun vs H Q _ => ∃ (p d a : Addr) (kvs : List (Key × V)) (n : Nat) (l m : List Nat), vs = [.ref p, .ref a, .int (n : Int), .str (S l), .str (S m)] ∧ Sto C H p d kvs ∧ H a = some (.dK kvs) ∧ d ≠ a ∧ Good kvs ∧ Tk l ∧ Tk m ∧ kvs.length < 900 ∧
  ∀ kvs' H', Good kvs' → kvs'.length ≤ kvs.length + 1 → Sto C H' p d kvs' → H' a = some (.dK kvs') → Keeps2 H H' d a → Q (.bl true) H'
theorem sto_keep {C p d a : Addr} {H : Hp} {kvs kvs' : List (Key × V)} {o : HO} (TR : Sto C H p d kvs) (ha : H a = some (.dK kvs')) (ne : d ≠ a) : Sto C (L2.upd H a o) p d kvs := by
  obtain ⟨⟨dx, r, h1⟩, h2⟩ := TR
  exact ⟨⟨dx, r, by rw [upd_ne (ne_of h1 ha (by intro z; cases z))]; exact h1⟩, by rw [upd_ne ne]; exact h2⟩
theorem ok__law_deed {f C : Addr} {fd : FuncData} (F : Fun K "_law_deed" "_law_deed" s__law_deed f fd) (T : Tx mg) (G : Gx K mg) (TC : Tc K C) (C_content_key : Kn.Cl P w K mg base 1 "content_key" (sp_content_key K)) (M_Store_put_content : Kn.Mt P w K mg base 3 C "put_content" (sp_Store_put_content C K)) (M_Store_lose_content : Kn.MtX P w K mg base 4 C "lose_content" (sp_Store_lose_content C G)) (M_Store_damage_content : Kn.MtX P w K mg base 4 C "damage_content" (sp_Store_damage_content C G)) : FnOk P w K mg base CX0 5 f fd ["store", "kept", "n", "text", "other"] (sp__law_deed C G) := by
  refine F.ok sc__law_deed (fun vs H Q E h => ?_) (fun cdv A outer s H vs Q E hr h => ?_)
  · obtain ⟨p, d, a, kvs, n, l, m, rfl, _⟩ := h
    rfl
  · obtain ⟨p, d, a, kvs, n, l, m, rfl, TR, ha, ne, g, hl, hm, hlen, q⟩ := h
    refine ⟨_, (pss_cons (ps_set (i := 5) sc__law_deed.nd rfl (Or.inl rfl) (Kn.pe_cl C_content_key hr (by decide) (by rfl) (pa_cons (pv 3) pa_nil)))
      (pss_cons (ps_set (i := 6) sc__law_deed.nd rfl (Or.inl rfl) (pe_op op_mod (pe_callTy Kn.cr_int1 (by rfl) T.b_int (by decide +kernel) (pa_cons (pv 2) pa_nil)) pe_int))
      (pss_cons (ps_if (pt_cmpR op_lt (pv 6) pe_int (nomark _)) (pss_cons (ps_dput (hu_of hr) (pv 1) (pv 5) (pv 3) rfl)
      (pss_one (ps_ret (pe_cmpR op_eq (Kn.pe_mt M_Store_put_content hr (by decide) (pv 0) (pa_cons (pv 3) pa_nil)) (pv 5) (nomark _))))) pss_nil)
      (pss_cons (ps_try_as (i := 7) (tb := fun W => (tIfS (tTest (tOp rEq (tVar 6) (tC (.int 2)))) (tDrop (tMethX C "lose_content" (sp_Store_lose_content C G) (WE W) (tVar 0) (tCons (tVar 5) tNil))) (tDrop (tMethX C "damage_content" (sp_Store_damage_content C G) (WE W) (tVar 0) (tCons (tVar 5) (tCons (tVar 4) tNil)))))) (ts := fun a cls d => (tRet (tAndV (tDNotIn (tVar 5) (tVar 1)) (tOp rEq (tXf a cls d G.c_MissingContent "key" (tVar 7)) (tVar 5))))) (Wout := (fun _ _ _ _ => False)) rfl rfl sc__law_deed.nd rfl rfl ⟨rfl, by decide, Or.inl G.g_MissingContent⟩ takes0
      (fun W pn xe tk po => (pss_one (ps_if (pt_cmpR op_eq (pv 6) pe_int (nomark _)) (pss_one (ps_expr (Kn.pe_mtX M_Store_lose_content hr (by decide) tk (pv 0) (pa_cons (pv 5) pa_nil)))) (pss_one (ps_expr (Kn.pe_mtX M_Store_damage_content hr (by decide) tk (pv 0) (pa_cons (pv 5) (pa_cons (pv 4) pa_nil))))))))
      (fun a oe cls d pn hz hf => (pss_one (ps_ret (pe_and (pe_cmp (pc_dnotin (by have z := hu_of hr; exact z) (pv 5) (pv 1)) rfl) (pe_one (pe_cmpR op_eq (pe_xf G.x_MissingContent.xf G.n_MissingContent_key hz hf (pv 7)) (pv 5) (nomark _))))))))
      (pss_cons (ps_if (pt_cmp (pc_dnotin (hu_of hr) (pv 5) (pv 1))) (pss_one (ps_ret pe_bl)) pss_nil)
      (pss_cons (ps_if (pt_cmpR op_eq (pv 6) pe_int (nomark _)) (pss_one (ps_expr (pe_dpop1 (pv 1) (pv 5) ⟨rfl, rfl, rfl, rfl⟩))) (pss_one (ps_dput (hu_of hr) (pv 1) (pv 5) (pv 4) rfl)))
      (pss_one (ps_ret pe_bl)))))))), ?_⟩
    refine q_asg (ev_c1 (a := l) (ea_cons (ev_var rfl) ea_nil) fun _ _ => hl) fun H1 e1 => ?_
    refine q_asg (v := .int ((n % 5 : Nat) : Int)) (Kn.ev_mod (m := 5) (ev_cb (ea_cons (ev_var rfl) ea_nil) rc_int) rfl (by decide)) fun H2 e2 => ?_
    generalize hk : n % 5 = kind
    generalize hkey : ((keyN l : Nat) : Int) = key
    have e12 := e1.trans e2
    refine q_when (b := decide (kind < 2)) (et_ltN (m := 2) (ev_var rfl) rfl) (fun hb H3 e3 => ?_) fun hb H3 e3 => ?_
    · have e13 := e12.trans e3
      have T3 := TR.mono e13
      refine q_dputI (ev_var rfl) (fun H4 e4 => ev_var rfl) (fun H4 e4 => ev_var rfl) (e13 _ _ ha) (by omega) fun H4 e4 => ?_
      have T4 := T3.mono e4
      have ha4 := e4 _ _ (e13 _ _ ha)
      have T5 : Sto C (L2.upd H4 a (.dK (putK kvs (Sum.inl key) (.str (S l))))) p d kvs := sto_keep T4 ha4 ne
      have k5 : ∀ b o, H b = some o → b ≠ a → (L2.upd H4 a (.dK (putK kvs (Sum.inl key) (.str (S l))))) b = some o := fun b o hb hne => by
        rw [upd_ne hne]
        exact e4 _ _ (e13 _ _ hb)
      have ha5 : (L2.upd H4 a (.dK (putK kvs (Sum.inl key) (.str (S l))))) a = some (.dK (putK kvs (Sum.inl key) (.str (S l)))) := upd_same
      generalize L2.upd H4 a (.dK (putK kvs (Sum.inl key) (.str (S l)))) = H5 at T5 k5 ha5
      obtain ⟨⟨dx, r, hp⟩, hd⟩ := id T5
      refine ⟨_, rfl, p, dx, _, rfl, hp, fld_no d r (by decide +kernel) (by decide +kernel) (by decide +kernel), ?_⟩
      refine ea_cons (ev_var rfl) ea_nil H5 (Ex.refl _) _ fun H6 e6 => ?_
      refine ⟨p, d, kvs, l, rfl, T5.mono e6, hl, by omega, fun H7 T7 k7 => ?_⟩
      refine ⟨_, rfl, ?_⟩
      subst hkey
      refine (rv_eqI (a := ((keyN l : Nat) : Int)) (b := ((keyN l : Nat) : Int))) H7 (Ex.refl _) _ fun H8 e8 => ?_
      rw [decide_eq_true rfl]
      refine q _ H8 (g.put hl) (putK_len _ _ _) (T7.mono e8) (e8 _ _ (k7 _ _ (e6 _ _ ha5) ne.symm)) fun b o hb h1 h2 => e8 _ _ (k7 _ _ (e6 _ _ (k5 b o hb h2)) h1)
    · have e13 := e12.trans e3
      have T3 := TR.mono e13
      obtain ⟨⟨dx, r, hp⟩, hd⟩ := id T3
      have no : ∀ {m : Str}, ¬ m = "_rows" → ¬ m = "_texts" → ¬ m = "journal" → (fldS d r).lookup m = none := fun h1 h2 h3 => fld_no d r h1 h2 h3
      have hand : ∀ {H' : Hp} {dd : Addr} {D : Ends} {y : Option V}, D.rt = Q → (valV kvs (Sum.inl key)).isSome = false → Ex H H' → H' dd = some (.xd [("key", .int key)]) → ∀ ex, tRet (tAndV (tDNotIn (tVar 5) (tVar 1)) (tOp rEq (tXf ex (.ref G.c_MissingContent) (some dd) G.c_MissingContent "key" (tVar 7)) (tVar 5))) D ([some (.ref p), some (.ref a), some (.int (n : Int)), some (.str (S l)), some (.str (S m)), some (.int key), some (.int (kind : Int)), some (.ref ex)]) H' := fun {H' dd D y} hD hs e hdd ex => by
        refine s_ret (v := .bl true) (ev_is (ev_andV (a := true) (b := true) (ev_is (ev_dninI (ev_var rfl) (ev_var rfl) (e _ _ ha)) (by rw [hs]; rfl)) fun _ => ev_is (ev_op (ev_xf rfl hdd rfl) (ev_var rfl) rv_eqI) (by rw [decide_eq_true rfl])) rfl) fun H2 e2 => ?_
        rw [hD]
        exact q kvs H2 g (by omega) ((TR.mono e).mono e2) (e2 _ _ (e _ _ ha)) fun b o hb _ _ => e2 _ _ (e _ _ hb)
      have hb' := of_decide_eq_false hb
      refine s_if (b := decide (kind = 2)) (et_eqN (m := 2) (ev_var rfl) rfl) (fun h2 H4 e4 => ?_) (fun h2 H4 e4 => ?_)
      · have h2' := of_decide_eq_true h2
        have e14 := e13.trans e4
        have T4 := T3.mono e4
        refine ⟨_, rfl, p, dx, _, rfl, e4 _ _ hp, no (by decide +kernel) (by decide +kernel) (by decide +kernel), ?_⟩
        refine ea_cons (ev_var rfl) ea_nil H4 (Ex.refl _) _ fun H5 e5 => ?_
        refine ⟨p, d, kvs, key, rfl, T4.mono e5, fun hs dd H6 e6 hdd => ?_, fun hs H6 T6 k6 => ?_⟩
        · exact as_hit G.x_MissingContent.me fun ex nex => hand (y := none) rfl hs ((e14.trans e5).trans e6) hdd ex
        · have ha6 := k6 _ _ (e5 _ _ (e14 _ _ ha)) ne.symm
          refine q_when (b := false) (et_is (et_B (ev_dninI (ev_var rfl) (ev_var rfl) ha6)) (by rw [hs]; rfl)) (fun z => nomatch z) fun _ H7 e7 => ?_
          refine q_if (b := decide (kind = 2)) (et_eqN (m := 2) (ev_var rfl) rfl) (fun _ H8 e8 => ?_) (fun z => by rw [h2] at z; cases z)
          obtain ⟨v, hv⟩ := Option.isSome_iff_exists.mp hs
          have e78 := e7.trans e8
          refine s_dpopI (ev_var rfl) (fun H9 e9 => ev_var rfl) (e78 _ _ ha6) hv fun H9 e9 => ?_
          have e79 := e78.trans e9
          have T9 : Sto C (L2.upd H9 a (.dK (dropK kvs (Sum.inl key)))) p d (dropK kvs (Sum.inl key)) := sto_keep (T6.mono e79) (e79 _ _ ha6) ne
          refine s_ret (te := tC (.bl true)) (σ := []) (D := { nx := fun _ H' => Q .non H', rt := Q }) ev_c fun H10 e10 => q _ H10 g.drop ?_ (T9.mono e10) (e10 _ _ upd_same) fun b o hb h1 h2 => e10 _ _ ?_
          · have := dropK_le kvs (Sum.inl key)
            omega
          · rw [upd_ne h2]
            exact e79 _ _ (k6 _ _ (e5 _ _ (e14 _ _ hb)) h1)
      · have e14 := e13.trans e4
        have T4 := T3.mono e4
        refine ⟨_, rfl, p, dx, _, rfl, e4 _ _ hp, no (by decide +kernel) (by decide +kernel) (by decide +kernel), ?_⟩
        refine ea_cons (ev_var rfl) (ea_cons (ev_var rfl) ea_nil) H4 (Ex.refl _) _ fun H5 e5 => ?_
        refine ⟨p, d, kvs, key, m, rfl, T4.mono e5, by omega, fun hs dd H6 e6 hdd => ?_, fun hs H6 T6 k6 => ?_⟩
        · exact as_hit G.x_MissingContent.me fun ex nex => hand (y := none) rfl hs ((e14.trans e5).trans e6) hdd ex
        · have ha6 := k6 _ _ (e5 _ _ (e14 _ _ ha)) ne.symm
          refine q_when (b := false) (et_is (et_B (ev_dninI (ev_var rfl) (ev_var rfl) ha6)) (by rw [hs]; rfl)) (fun z => nomatch z) fun _ H7 e7 => ?_
          refine q_if (b := decide (kind = 2)) (et_eqN (m := 2) (ev_var rfl) rfl) (fun z => by rw [h2] at z; cases z) (fun _ H8 e8 => ?_)
          have e78 := e7.trans e8
          refine s_dputI (ev_var rfl) (fun H9 e9 => ev_var rfl) (fun H9 e9 => ev_var rfl) (e78 _ _ ha6) (by omega) fun H9 e9 => ?_
          have e79 := e78.trans e9
          have T9 : Sto C (L2.upd H9 a (.dK (putK kvs (Sum.inl key) (.str (S m))))) p d (putK kvs (Sum.inl key) (.str (S m))) := sto_keep (T6.mono e79) (e79 _ _ ha6) ne
          refine s_ret (te := tC (.bl true)) (σ := []) (D := { nx := fun _ H' => Q .non H', rt := Q }) ev_c fun H10 e10 => q _ H10 (g.put hm) (putK_len _ _ _) (T9.mono e10) (e10 _ _ upd_same) fun b o hb h1 h2 => e10 _ _ ?_
          rw [upd_ne h2]
          exact e79 _ _ (k6 _ _ (e5 _ _ (e14 _ _ hb)) h1)
end

section
variable {P : Program} {w : World} {K : PySem.W.Frag} {mg : Str → Option Value} {base : Heap}
/-! ### the law -/
def sp_law (K : PySem.W.Frag) : Sp := fun vs H Q _ => ∃ (a : Addr) (ns : List Int), vs = [.ref a] ∧ (SqL K H a (ns.map V.int) ∧ ns.length ≤ 63) ∧ Rt H (.bl true) Q
structure W3 (C : Addr) (H0 H' : Hp) (p1 d1 a1 p2 d2 a2 kl : Addr) (kv1 kv2 : List (Key × V)) (keys : List Int) : Prop where
  ex : Ex H0 H'
  s1 : Sto C H' p1 d1 kv1
  h1 : H' a1 = some (.dK kv1)
  g1 : Good kv1
  s2 : Sto C H' p2 d2 kv2
  h2 : H' a2 = some (.dK kv2)
  g2 : Good kv2
  hk : H' kl = some (.lst (keys.map V.int))
  n1 : H0 d1 = none
  n2 : H0 a1 = none
  n3 : H0 d2 = none
  n4 : H0 a2 = none
  n5 : H0 kl = none
  x1 : d1 ≠ a1
  x2 : d1 ≠ d2
  x3 : d1 ≠ a2
  x4 : a1 ≠ d2
  x5 : a1 ≠ a2
  x6 : d2 ≠ a2
theorem W3.mono {C : Addr} {H0 H H1 : Hp} {p1 d1 a1 p2 d2 a2 kl : Addr} {kv1 kv2 : List (Key × V)} {keys : List Int} (h : W3 C H0 H p1 d1 a1 p2 d2 a2 kl kv1 kv2 keys) (e : Ex H H1) : W3 C H0 H1 p1 d1 a1 p2 d2 a2 kl kv1 kv2 keys :=
  { h with ex := h.ex.trans e, s1 := h.s1.mono e, h1 := e _ _ h.h1, s2 := h.s2.mono e, h2 := e _ _ h.h2, hk := e _ _ h.hk }
theorem keep_sto {C : Addr} {H H1 : Hp} {p d d' a' : Addr} {kvs kvs2 kvs3 : List (Key × V)} (k : Keeps2 H H1 d' a') (T : Sto C H p d kvs) (h1 : H d' = some (.dK kvs2)) (h2 : H a' = some (.dK kvs3)) (ne : d ≠ d') (ne2 : d ≠ a') : Sto C H1 p d kvs := by
  obtain ⟨⟨dx, r, hp⟩, hd⟩ := T
  exact ⟨⟨dx, r, k _ _ hp (ne_of hp h1 (by intro z; cases z)) (ne_of hp h2 (by intro z; cases z))⟩, k _ _ hd ne ne2⟩
theorem W3.first {C : Addr} {H0 H H1 : Hp} {p1 d1 a1 p2 d2 a2 kl : Addr} {kv1 kv2 kv1' : List (Key × V)} {keys : List Int} (h : W3 C H0 H p1 d1 a1 p2 d2 a2 kl kv1 kv2 keys) (T : Sto C H1 p1 d1 kv1') (ha : H1 a1 = some (.dK kv1')) (g : Good kv1') (k : Keeps2 H H1 d1 a1) : W3 C H0 H1 p1 d1 a1 p2 d2 a2 kl kv1' kv2 keys :=
  { h with ex := fun b o hb => k _ _ (h.ex _ _ hb) (ne_of_none hb h.n1) (ne_of_none hb h.n2), s1 := T, h1 := ha, g1 := g, s2 := keep_sto k h.s2 h.s1.dc h.h1 h.x2.symm h.x4.symm, h2 := k _ _ h.h2 h.x3.symm h.x5.symm, hk := k _ _ h.hk (ne_of h.hk h.s1.dc (by intro z; cases z)) (ne_of h.hk h.h1 (by intro z; cases z)) }
theorem W3.second {C : Addr} {H0 H H1 : Hp} {p1 d1 a1 p2 d2 a2 kl : Addr} {kv1 kv2 kv2' : List (Key × V)} {keys : List Int} (h : W3 C H0 H p1 d1 a1 p2 d2 a2 kl kv1 kv2 keys) (T : Sto C H1 p2 d2 kv2') (ha : H1 a2 = some (.dK kv2')) (g : Good kv2') (k : Keeps2 H H1 d2 a2) : W3 C H0 H1 p1 d1 a1 p2 d2 a2 kl kv1 kv2' keys :=
  { h with ex := fun b o hb => k _ _ (h.ex _ _ hb) (ne_of_none hb h.n3) (ne_of_none hb h.n4), s2 := T, h2 := ha, g2 := g, s1 := keep_sto k h.s1 h.s2.dc h.h2 h.x2 h.x3, h1 := k _ _ h.h1 h.x4 h.x5, hk := k _ _ h.hk (ne_of h.hk h.s2.dc (by intro z; cases z)) (ne_of h.hk h.h2 (by intro z; cases z)) }
theorem W3.key {C : Addr} {H0 H : Hp} {p1 d1 a1 p2 d2 a2 kl : Addr} {kv1 kv2 : List (Key × V)} {keys keys' : List Int} (h : W3 C H0 H p1 d1 a1 p2 d2 a2 kl kv1 kv2 keys) : W3 C H0 (L2.upd H kl (.lst (keys'.map V.int))) p1 d1 a1 p2 d2 a2 kl kv1 kv2 keys' := by
  have nk : ∀ {b : Addr} {o : HO}, H b = some o → (∀ xs, o ≠ .lst xs) → b ≠ kl := fun hb hne => ne_of hb h.hk (hne _)
  have st : ∀ {p d : Addr} {kvs : List (Key × V)}, Sto C H p d kvs → Sto C (L2.upd H kl (.lst (keys'.map V.int))) p d kvs := fun T => by
    obtain ⟨⟨dx, r, hp⟩, hd⟩ := T
    exact ⟨⟨dx, r, by rw [upd_ne (nk hp (fun xs z => nomatch z))]; exact hp⟩, by rw [upd_ne (nk hd (fun xs z => nomatch z))]; exact hd⟩
  exact { h with ex := Ex.mut h.ex h.n5, s1 := st h.s1, s2 := st h.s2, h1 := by rw [upd_ne (nk h.h1 (fun xs z => nomatch z))]; exact h.h1, h2 := by rw [upd_ne (nk h.h2 (fun xs z => nomatch z))]; exact h.h2, hk := upd_same }
/-- a list of the last keys is asked -/
theorem ev_asked {C : Addr} {G : Gx K mg} {σ : L2.St} {H : Hp} {t1 t2 t3 : TE} {p d a : Addr} {kvs : List (Key × V)} {keys : List Int} (h1 : Ev t1 σ H (.ref p)) (h2 : Ev t2 σ H (.ref a)) (h3 : EvL t3 σ H (keys.map V.int)) (T : Sto C H p d kvs) (ha : H a = some (.dK kvs)) (g : Good kvs) (hl : kvs.length < 64) :
    Ev (tCall (sp__law_asked C G) [] E0 (tCons t1 (tCons t2 (tCons t3 tNil)))) σ H (.bl true) := fun H1 e Q q =>
  h1 H1 e _ fun H2 e2 => h2 H2 (e.trans e2) _ fun H3 e3 => h3 H3 ((e.trans e2).trans e3) _ fun pl H4 npl e4 hpl =>
    ⟨p, d, a, pl, kvs, keys, rfl, T.mono (((e.trans e2).trans e3).trans e4), (((e.trans e2).trans e3).trans e4) _ _ ha, g, hl, sq_of hpl, fun H5 e5 => q H5 (((e2.trans e3).trans e4).trans e5)⟩
theorem ev_askedV {C : Addr} {G : Gx K mg} {σ : L2.St} {H : Hp} {t1 t2 t3 : TE} {p d a kl : Addr} {kvs : List (Key × V)} {keys : List Int} (h1 : Ev t1 σ H (.ref p)) (h2 : Ev t2 σ H (.ref a)) (h3 : Ev t3 σ H (.ref kl)) (hk : H kl = some (.lst (keys.map V.int))) (T : Sto C H p d kvs) (ha : H a = some (.dK kvs)) (g : Good kvs) (hl : kvs.length < 64) :
    Ev (tCall (sp__law_asked C G) [] E0 (tCons t1 (tCons t2 (tCons t3 tNil)))) σ H (.bl true) := fun H1 e Q q =>
  h1 H1 e _ fun H2 e2 => h2 H2 (e.trans e2) _ fun H3 e3 => h3 H3 ((e.trans e2).trans e3) _ fun H4 e4 =>
    ⟨p, d, a, kl, kvs, keys, rfl, T.mono (((e.trans e2).trans e3).trans e4), (((e.trans e2).trans e3).trans e4) _ _ ha, g, hl, sq_of ((((e.trans e2).trans e3).trans e4) _ _ hk), fun H5 e5 => q H5 (((e2.trans e3).trans e4).trans e5)⟩
theorem ok_law {f C : Addr} {fd : FuncData} (F : Fun K "law" "law" s_law f fd) (T : Tx mg) (G : Gx K mg) (TC : Tc K C) (C__law_cell : Kn.Cl P w K mg base 1 "_law_cell" (sp__law_cell K)) (C__law_numbers : Kn.Cl P w K mg base 1 "_law_numbers" (sp__law_numbers K)) (C__law_text : Kn.Cl P w K mg base 1 "_law_text" (sp__law_text K)) (C__law_asked : Kn.Cl P w K mg base 4 "_law_asked" (sp__law_asked C G)) (C__law_deed : Kn.Cl P w K mg base 5 "_law_deed" (sp__law_deed C G)) (C_content_key : Kn.Cl P w K mg base 1 "content_key" (sp_content_key K)) (M_Store : Kn.MkrD P w K mg base 1 "Store" C (sp_Store___init__ C K) [.non]) : FnOk P w K mg base CX0 6 f fd ["script"] (sp_law K) := by
  refine F.ok sc_law (fun vs H Q E h => ?_) (fun cdv A outer s H vs Q E hr h => ?_)
  · obtain ⟨a, ns, rfl, _⟩ := h
    rfl
  · obtain ⟨a, ns, rfl, ⟨hS, hl63⟩, q⟩ := h
    refine ⟨_, (pss_cons (ps_set (i := 1) sc_law.nd rfl (Or.inl rfl) (pe_op op_add pe_int (pe_op op_mod (pe_callTy Kn.cr_int1 (by rfl) T.b_int (by decide +kernel) (pa_cons (Kn.pe_cl C__law_cell hr (by decide) (by rfl) (pa_cons (pv 0) (pa_cons pe_int pa_nil))) pa_nil)) pe_int)))
      (pss_cons (ps_set (i := 2) sc_law.nd rfl (Or.inl rfl) (Kn.pe_mkrD0 M_Store hr (by decide) (by rfl)))
      (pss_cons (ps_set (i := 3) sc_law.nd rfl (Or.inl rfl) (Kn.pe_mkrD0 M_Store hr (by decide) (by rfl)))
      (pss_cons (ps_set (i := 4) sc_law.nd rfl (Or.inl rfl) pe_dnewK)
      (pss_cons (ps_set (i := 5) sc_law.nd rfl (Or.inl rfl) pe_dnewK)
      (pss_cons (ps_set (i := 6) sc_law.nd rfl (Or.inl rfl) (pe_lst pa_nil))
      (pss_cons (ps_for PassesOwn.never rfl (pi_range2 rfl T.b_range (pa_cons pe_int (pa_cons (pe_callB (Kn.cr_min2 rfl) (by rfl) T.b_min (by decide +kernel) (pa_cons pe_int (pa_cons (pe_callB (Kn.cr_max2 rfl) (by rfl) T.b_max (by decide +kernel) (pa_cons pe_int (pa_cons (pe_callB Kn.cr_lenSeq (by rfl) T.b_len PySem.boot_len (pa_cons (pv 0) pa_nil)) pa_nil))) pa_nil))) pa_nil))) (pg_name (i := 7) sc_law.nd rfl (Or.inl rfl)) (pss_cons (ps_set (i := 8) sc_law.nd rfl (Or.inl rfl) (Kn.pe_cl C__law_numbers hr (by decide) (by rfl) (pa_cons (Kn.pe_cl C__law_cell hr (by decide) (by rfl) (pa_cons (pv 0) (pa_cons (pv 7) pa_nil))) (pa_cons pe_int pa_nil))))
      (pss_cons (ps_set (i := 9) sc_law.nd rfl (Or.inl rfl) (Kn.pe_cl C__law_text hr (by decide) (by rfl) (pa_cons (pe_op op_mod (pe_callTy Kn.cr_int1 (by rfl) T.b_int (by decide +kernel) (pa_cons (pe_ix ix_list (pv 8) pe_int (fun _ _ => rfl)) pa_nil)) pe_int) (pa_cons (pv 1) pa_nil))))
      (pss_cons (ps_set (i := 10) sc_law.nd rfl (Or.inl rfl) (pe_ix ix_list (pe_lst (pa_cons (Kn.pe_cl C__law_text hr (by decide) (by rfl) (pa_cons (pe_op op_mod (pe_callTy Kn.cr_int1 (by rfl) T.b_int (by decide +kernel) (pa_cons (pe_ix ix_list (pv 8) pe_int (fun _ _ => rfl)) pa_nil)) pe_int) (pa_cons (pv 1) pa_nil))) (pa_cons (pv 9) pa_nil))) (pe_op op_mod (pe_callTy Kn.cr_int1 (by rfl) T.b_int (by decide +kernel) (pa_cons (pe_ix ix_list (pv 8) pe_int (fun _ _ => rfl)) pa_nil)) pe_int) (fun _ _ => rfl)))
      (pss_cons (ps_expr (pe_bm PySem.F.plainAttrs_list PySem.F.slot_list_append PySem.F.type_list_append mt_append (pv 6) (pa_cons (Kn.pe_cl C_content_key hr (by decide) (by rfl) (pa_cons (pv 9) pa_nil)) pa_nil)))
      (pss_cons (ps_if (pt_not (pt_val (Kn.pe_cl C__law_deed hr (by decide) (by rfl) (pa_cons (pv 2) (pa_cons (pv 4) (pa_cons (pe_ix ix_list (pv 8) pe_int (fun _ _ => rfl)) (pa_cons (pv 9) (pa_cons (pv 10) pa_nil)))))))) (pss_one (ps_ret pe_bl)) pss_nil)
      (pss_cons (ps_if (PW.pt (pw_and (pt_cmpR op_eq (pe_op op_mod (pv 7) pe_int) pe_int (nomark _)) (pw_and1 (pt_not (pt_val (Kn.pe_cl C__law_deed hr (by decide) (by rfl) (pa_cons (pv 3) (pa_cons (pv 5) (pa_cons (pe_ix ix_list (pv 8) pe_int (fun _ _ => rfl)) (pa_cons (pv 10) (pa_cons (pv 9) pa_nil))))))))))) (pss_one (ps_ret pe_bl)) pss_nil)
      (pss_one (ps_if (PW.pt (pw_or (pt_not (pt_val (Kn.pe_cl C__law_asked hr (by decide) (by rfl) (pa_cons (pv 2) (pa_cons (pv 4) (pa_cons (pe_slice sl_list (pv 6) (po_some (pe_un un_neg pe_int)) po_none) pa_nil)))))) (pw_or1 (pt_not (pt_val (Kn.pe_cl C__law_asked hr (by decide) (by rfl) (pa_cons (pv 3) (pa_cons (pv 5) (pa_cons (pe_slice sl_list (pv 6) (po_some (pe_un un_neg pe_int)) po_none) pa_nil))))))))) (pss_one (ps_ret pe_bl)) pss_nil)))))))))
      (pss_one (ps_ret (pe_and (Kn.pe_cl C__law_asked hr (by decide) (by rfl) (pa_cons (pv 2) (pa_cons (pv 4) (pa_cons (pv 6) pa_nil)))) (pe_one (Kn.pe_cl C__law_asked hr (by decide) (by rfl) (pa_cons (pv 3) (pa_cons (pv 5) (pa_cons (pv 6) pa_nil))))))))))))))), ?_⟩
    obtain ⟨size, hsz, hszv⟩ : ∃ size : Nat, (0 < size ∧ size ≤ 41) ∧ (2 + L2.cellOf ns 0 % 40 : Int) = (size : Int) := ⟨(2 + L2.cellOf ns 0 % 40).toNat, by omega, by omega⟩
    refine q_asg (v := .int (size : Int)) (ev_is (ev_op ev_c (ev_op (ev_cb (ea_cons (ev_c3 (a := a) (b := ns) (c := 0) (ea_cons (ev_var rfl) (ea_cons ev_c ea_nil)) fun H1 e1 => ex_l e1 hS) ea_nil) rc_int) ev_c (rv_mod (by decide))) rv_I0) (by rw [← hszv])) fun H1 e1 => ?_
    intro p1 dx1 np1 nx1 ne1
    refine ⟨p1, dx1, rfl, upd_same, fun d1 H2 nd1 S1 k1 => ⟨rfl, ?_⟩⟩
    have e12 : Ex H1 H2 := fun b o hb => k1 b o (by rw [upd_ne (ne_of_none hb np1), upd_ne (ne_of_none hb nx1)]; exact hb) (ne_of_none hb np1)
    have nd1' : H1 d1 = none := upd_none (upd_none nd1)
    intro p2 dx2 np2 nx2 ne2
    refine ⟨p2, dx2, rfl, upd_same, fun d2 H3 nd2 S2 k2 => ⟨rfl, ?_⟩⟩
    have e23 : Ex H2 H3 := fun b o hb => k2 b o (by rw [upd_ne (ne_of_none hb np2), upd_ne (ne_of_none hb nx2)]; exact hb) (ne_of_none hb np2)
    have nd2' : H2 d2 = none := upd_none (upd_none nd2)
    have S1' := S1.mono e23
    refine q_dnew fun a1 na1 => ?_
    have e34 := Ex.new (o := .dK []) na1
    have ha1 : (L2.upd H3 a1 (.dK [])) a1 = some (.dK []) := upd_same
    have S1'' := S1'.mono e34
    have S2'' := S2.mono e34
    have ne_1a : d1 ≠ a1 := ne_of_none S1'.dc na1
    have ne_2a : d2 ≠ a1 := ne_of_none S2.dc na1
    have ne_12 : d1 ≠ d2 := ne_of_none S1.dc nd2'
    generalize L2.upd H3 a1 (.dK []) = H4 at e34 ha1 S1'' S2''
    refine q_dnew fun a2 na2 => ?_
    have e45 := Ex.new (o := .dK []) na2
    have ha2 : (L2.upd H4 a2 (.dK [])) a2 = some (.dK []) := upd_same
    have ha1' := e45 _ _ ha1
    have S1f := S1''.mono e45
    have S2f := S2''.mono e45
    have ne_1b : d1 ≠ a2 := ne_of_none S1''.dc na2
    have ne_2b : d2 ≠ a2 := ne_of_none S2''.dc na2
    have ne_ab : a1 ≠ a2 := ne_of_none ha1 na2
    generalize L2.upd H4 a2 (.dK []) = H5 at e45 ha2 ha1' S1f S2f
    refine q_asgL (el_lst ea_nil (by show 0 ≤ 100000; decide)) fun kl H6 nkl e56 hkl => ?_
    have e02 := e1.trans e12
    have e03 := e02.trans e23
    have e04 := e03.trans e34
    have e05 := e04.trans e45
    have w0 : W3 C H H6 p1 d1 a1 p2 d2 a2 kl [] [] [] := ⟨e05.trans e56, S1f.mono e56, e56 _ _ ha1', good_nil, S2f.mono e56, e56 _ _ ha2, good_nil, hkl, fresh_back e1 nd1', fresh_back e03 na1, fresh_back e02 nd2', fresh_back e04 na2, fresh_back e05 nkl, ne_1a, ne_12, ne_1b, ne_2a.symm, ne_ab, ne_2b⟩
    have hlen : (ns.map V.int).length = ns.length := List.length_map _
    refine q_forR2 (lo := 1) (n := if (if (ns.length : Int) > 7 then (ns.length : Int) else 7) < 61 then (if (ns.length : Int) > 7 then (ns.length : Int) else 7) else 61) (ea_cons ev_c (ea_cons (ev_mn2 ev_c (ev_max2 ev_c (ev_is (ev_len (ev_var rfl) (ex_l w0.ex hS)) (by rw [hlen])))) ea_nil)) (by split <;> split <;> omega) (fun i σ' H' => ∃ (kv1 kv2 : List (Key × V)) (keys : List Int) (y7 y8 y9 y10 : Option V), σ' = [some (.ref a), some (.int (size : Int)), some (.ref p1), some (.ref p2), some (.ref a1), some (.ref a2), some (.ref kl), y7, y8, y9, y10] ∧ W3 C H H' p1 d1 a1 p2 d2 a2 kl kv1 kv2 keys ∧ kv1.length ≤ i ∧ kv2.length ≤ i ∧ keys.length ≤ i)
      (fun H7 e7 => ⟨[], [], [], _, _, _, _, rfl, w0.mono e7, by simp, by simp, by simp⟩) ?_ ?_
    · rintro i σ' H' hi ⟨kv1, kv2, keys, y7, y8, y9, y10, rfl, w1, hn1, hn2, hn3⟩
      have hi60 : i < 60 := by
        have : (1 : Int) + (i : Int) < 61 := by
          refine Int.lt_of_lt_of_le hi ?_
          split <;> split <;> omega
        omega
      have ev7 : ∀ {σ : L2.St} {H : Hp}, σ[7]? = some (some (.int (1 + (i : Int)))) → Ev (tVar 7) σ H (.int ((1 + i : Nat) : Int)) := fun h => ev_is (ev_var h) (by rw [Int.natCast_add]; rfl)
      -- the numbers
      have hA : EvA (tCons (tCall (sp__law_cell K) [] E0 (tCons (tVar 0) (tCons (tVar 7) tNil))) (tCons (tC (.int 4)) tNil)) ([some (.ref a), some (.int (size : Int)), some (.ref p1), some (.ref p2), some (.ref a1), some (.ref a2), some (.ref kl), some (.int (1 + (i : Int))), y8, y9, y10] : L2.St) H' [.int (L2.cellOf ns (1 + i)), .int ((4 : Nat) : Int)] :=
        ea_cons (ev_c3 (a := a) (b := ns) (c := 1 + i) (ea_cons (ev_var rfl) (ea_cons (ev7 rfl) ea_nil)) fun H1 e1 => ex_l (w1.ex.trans e1) hS) (ea_cons ev_c ea_nil)
      refine q_asgC hA fun H7 e7 => ?_
      refine ⟨_, 4, rfl, by decide, fun rs hrl hrs pr H8 npr e8 hpr => ?_⟩
      obtain ⟨r0, r1, r2, r3, rfl⟩ : ∃ r0 r1 r2 r3, rs = [r0, r1, r2, r3] := by
        match rs, hrl with
        | [r0, r1, r2, r3], _ => exact ⟨r0, r1, r2, r3, rfl⟩
      have w8 := (w1.mono e7).mono e8
      refine q_asg (v := .str (S (textN (r1 % 12) size))) (ev_c2 (a := r1 % 12) (b := size) (ea_cons (Kn.ev_mod (m := 12) (ev_cb (ea_cons (ev_op (ev_var rfl) ev_c (rv_ixL (v := .int (r1 : Int)) (sq_of hpr) (atI_nat (j := 1) rfl))) ea_nil) rc_int) rfl (by decide)) (ea_cons (ev_var rfl) ea_nil)) fun _ _ => ⟨Nat.mod_lt _ (by decide), hsz.1⟩) fun H9 e9 => ?_
      have ht1 := text_tk (n := r1 % 12) (size := size) (Nat.mod_lt _ (by decide)) hsz.1
      have ht2 := text_tk (n := r2 % 12) (size := size) (Nat.mod_lt _ (by decide)) hsz.1
      obtain ⟨t2, ht2', hix⟩ : ∃ t2, Tk t2 ∧ ([V.str (S (textN (r2 % 12) size)), V.str (S (textN (r1 % 12) size))])[r3 % 2]? = some (.str (S t2)) := by
        rcases Nat.mod_two_eq_zero_or_one r3 with z | z
        · exact ⟨_, ht2, by rw [z]; rfl⟩
        · exact ⟨_, ht1, by rw [z]; rfl⟩
      refine q_asg (v := .str (S t2)) (ev_ixLit (xs := [V.str (S (textN (r2 % 12) size)), V.str (S (textN (r1 % 12) size))]) (el_lst (ea_cons (ev_c2 (a := r2 % 12) (b := size) (ea_cons (Kn.ev_mod (m := 12) (ev_cb (ea_cons (ev_op (ev_var rfl) ev_c (rv_ixL (v := .int (r2 : Int)) (sq_of (e9 _ _ hpr)) (atI_nat (j := 2) rfl))) ea_nil) rc_int) rfl (by decide)) (ea_cons (ev_var rfl) ea_nil)) fun _ _ => ⟨Nat.mod_lt _ (by decide), hsz.1⟩) (ea_cons (ev_var rfl) ea_nil)) (by show 2 ≤ 100000; decide)) (Kn.ev_mod (m := 2) (ev_cb (ea_cons (ev_op (ev_var rfl) ev_c (rv_ixL (v := .int (r3 : Int)) (sq_of (e9 _ _ hpr)) (atI_nat (j := 3) rfl))) ea_nil) rc_int) rfl (by decide)) rfl hix) fun H10 e10 => ?_
      generalize textN (r1 % 12) size = t1 at ht1
      clear ht2 hix
      have w10 := (w8.mono e9).mono e10
      have hpr10 := e10 _ _ (e9 _ _ hpr)
      refine q_app w10.hk (ev_var rfl) (ev_c1 (a := t1) (ea_cons (ev_var rfl) ea_nil) fun _ _ => ht1) (by rw [List.length_map]; omega) fun H11 e11 => ?_
      have w11 := (w10.mono e11).key (keys' := keys ++ [((keyN t1 : Nat) : Int)])
      have hpr11 : (L2.upd H11 kl (.lst ((keys ++ [((keyN t1 : Nat) : Int)]).map V.int))) pr = some (.lst (([r0, r1, r2, r3] : List Nat).map fun x : Nat => V.int (x : Int))) := by
        rw [upd_ne]
        · exact e11 _ _ hpr10
        · intro z
          subst z
          have := (w1.mono e7).hk
          rw [npr] at this
          cases this
      rw [show keys.map V.int ++ [V.int ((keyN t1 : Nat) : Int)] = (keys ++ [((keyN t1 : Nat) : Int)]).map V.int by rw [List.map_append]; rfl]
      generalize L2.upd H11 kl (.lst ((keys ++ [((keyN t1 : Nat) : Int)]).map V.int)) = H12 at w11 hpr11
      have hkl3 : (keys ++ [((keyN t1 : Nat) : Int)]).length ≤ i + 1 := by rw [List.length_append]; show keys.length + 1 ≤ i + 1; omega
      generalize keys ++ [((keyN t1 : Nat) : Int)] = keys' at w11 hkl3
      clear w10 w8 hpr10 e11 e10 e9 hpr e8 e7 npr w1 w0
      -- the first store
      refine q_whenNC (ea_cons (ev_var rfl) (ea_cons (ev_var rfl) (ea_cons (ev_op (ev_var rfl) ev_c (rv_ixL (v := .int (r0 : Int)) (sq_of hpr11) (atI_nat (j := 0) rfl))) (ea_cons (ev_var rfl) (ea_cons (ev_var rfl) ea_nil))))) fun H13 e13 => ?_
      have w13 := w11.mono e13
      refine ⟨p1, d1, a1, kv1, r0, t1, t2, rfl, w13.s1, w13.h1, w13.x1, w13.g1, ht1, ht2', by omega, fun kv1' H14 g1' hl1' T14 ha14 k14 => ⟨true, rfl, ?_⟩⟩
      have hpr14 := k14 _ _ (e13 _ _ hpr11) (ne_of (e13 _ _ hpr11) w13.s1.dc (by intro z; cases z)) (ne_of (e13 _ _ hpr11) w13.h1 (by intro z; cases z))
      have w14 := w13.first T14 ha14 g1' k14
      clear w13 w11 hpr11 e13 T14 ha14 k14
      -- what stands behind it
      have fin : ∀ (kv2' : List (Key × V)) (H15 : Hp), W3 C H H15 p1 d1 a1 p2 d2 a2 kl kv1' kv2' keys' → kv2'.length ≤ i + 1 → ∀ (D : Ends) (tu : TS), (∀ H16, Ex H15 H16 → D.nx [some (.ref a), some (.int (size : Int)), some (.ref p1), some (.ref p2), some (.ref a1), some (.ref a2), some (.ref kl), some (.int (1 + (i : Int))), some (.ref pr), some (.str (S t1)), some (.str (S t2))] H16) →
          tIfS (tOr (tNot (tB (tCall (sp__law_asked C G) [] E0 (tCons (tVar 2) (tCons (tVar 4) (tCons (tSl (rSlL K) (tVar 6) (tPart (tUn (rU fun i => .int (-i)) (tC (.int 6)))) tNoPart) tNil)))))) (tNot (tB (tCall (sp__law_asked C G) [] E0 (tCons (tVar 3) (tCons (tVar 5) (tCons (tSl (rSlL K) (tVar 6) (tPart (tUn (rU fun i => .int (-i)) (tC (.int 6)))) tNoPart) tNil))))))) tu tNext D [some (.ref a), some (.int (size : Int)), some (.ref p1), some (.ref p2), some (.ref a1), some (.ref a2), some (.ref kl), some (.int (1 + (i : Int))), some (.ref pr), some (.str (S t1)), some (.str (S t2))] H15 := fun kv2' H15 w15 hl2 D tu k => by
        obtain ⟨ms, hms, _, _⟩ := cutV_some (g := V.int) keys' (some (-6)) none
        have hs : EvL (tSl (rSlL K) (tVar 6) (tPart (tUn (rU fun i => .int (-i)) (tC (.int 6)))) tNoPart) [some (.ref a), some (.int (size : Int)), some (.ref p1), some (.ref p2), some (.ref a1), some (.ref a2), some (.ref kl), some (.int (1 + (i : Int))), some (.ref pr), some (.str (S t1)), some (.str (S t2))] H15 (ms.map V.int) := by
          rw [← hms]
          exact el_sl (ev_var rfl) (eo_some (ev_un ev_c ru_neg)) eo_none (sq_of w15.hk)
        exact s_when (b := false) (et_is (et_or (a := false) (b := false) (et_not (a := true) (et_B (ev_asked (ev_var rfl) (ev_var rfl) hs w15.s1 w15.h1 w15.g1 (by omega)))) fun _ => et_not (a := true) (et_B (ev_asked (ev_var rfl) (ev_var rfl) hs w15.s2 w15.h2 w15.g2 (by omega)))) rfl) (fun z => nomatch z) fun _ H16 e16 => k H16 e16
      -- the second store, at each third turn
      refine q_whenAC (et_eqN (n := (1 + i) % 3) (m := 0) (Kn.ev_mod (n := 1 + i) (m := 3) (ev7 rfl) rfl (by decide)) rfl) (fun H15 e15 => ea_cons (ev_var rfl) (ea_cons (ev_var rfl) (ea_cons (ev_op (ev_var rfl) ev_c (rv_ixL (v := .int (r0 : Int)) (sq_of (e15 _ _ hpr14)) (atI_nat (j := 0) rfl))) (ea_cons (ev_var rfl) (ea_cons (ev_var rfl) ea_nil))))) (fun _ H15 e15 => ?_) fun _ H16 e16 => ?_
      · refine fin kv2 H15 (w14.mono e15) (by omega) _ _ ?_
        exact fun H16 e16 => ⟨kv1', kv2, keys', _, _, _, _, rfl, (w14.mono e15).mono e16, by omega, by omega, hkl3⟩
      · have w16 := w14.mono e16
        refine ⟨p2, d2, a2, kv2, r0, t2, t1, rfl, w16.s2, w16.h2, w16.x6, w16.g2, ht2', ht1, by omega, fun kv2' H17 g2' hl2' T17 ha17 k17 => ⟨true, rfl, ?_⟩⟩
        have w17 := w16.second T17 ha17 g2' k17
        refine fin kv2' H17 w17 (by omega) _ _ ?_
        exact fun H18 e18 => ⟨kv1', kv2', keys', _, _, _, _, rfl, w17.mono e18, by omega, by omega, hkl3⟩
    · rintro σ' H' ⟨kv1, kv2, keys, y7, y8, y9, y10, rfl, w1, hn1, hn2, hn3⟩
      have hi60 : ((if (if (ns.length : Int) > 7 then (ns.length : Int) else 7) < 61 then (if (ns.length : Int) > 7 then (ns.length : Int) else 7) else 61) - 1).toNat ≤ 60 := by
        split <;> split <;> omega
      refine s_ret (v := .bl true) (ev_is (ev_andV (a := true) (b := true) (ev_askedV (ev_var rfl) (ev_var rfl) (ev_var rfl) w1.hk w1.s1 w1.h1 w1.g1 (by omega)) fun _ => ev_askedV (ev_var rfl) (ev_var rfl) (ev_var rfl) w1.hk w1.s2 w1.h2 w1.g2 (by omega)) rfl) fun H2 e2 => q H2 (w1.ex.trans e2)
end

theorem all_mk {l : PySem.W.OpenLaw} {w : World} {K : PySem.W.Frag} {h : Heap} {mg : Str → Option Value} {fa : Addr} (X : K.In h) (G : h.Ns mainGlobals mg) (hfa : mg "law" = some (.ref fa))
    {f0 f1 f2 f3 f4 f5 f6 f7 f8 f9 f10 f11 f12 f13 f14 f15 : Addr} {od0 od1 od2 od3 od4 od5 od6 od7 od8 od9 od10 od11 od12 od13 od14 od15 an0 an1 an2 an3 an4 an5 an6 an7 an8 an9 an10 an11 an12 an13 an14 an15 : Option Addr} {sl0 sl1 sl2 sl3 sl4 sl5 sl6 sl7 sl8 sl9 sl10 sl11 sl12 sl13 sl14 sl15 : Array (Option Value)} {oc0 oc1 oc2 oc3 oc4 oc5 oc6 oc7 oc8 oc9 oc10 oc11 oc12 oc13 oc14 oc15 kV0 kV1 kV2 kV3 kV4 kV5 kV6 kV7 kV8 kV9 kV10 kV11 kV12 kV13 kV14 kV15 dc0 dc1 dc2 dc3 dc4 dc5 dc6 dc7 dc8 dc9 dc10 dc11 dc12 dc13 dc14 dc15 pm0 pm1 pm2 pm3 pm4 pm5 pm6 pm7 pm8 pm9 pm10 pm11 pm12 pm13 pm14 pm15 cd0 cd1 cd2 cd3 cd4 cd5 cd6 cd7 cd8 cd9 cd10 cd11 cd12 cd13 cd14 cd15 ct0 ct1 ct2 ct3 ct4 ct5 ct6 ct7 ct8 ct9 ct10 ct11 ct12 ct13 ct14 ct15 : Value}
    {C : Addr}
    {XB : Addr}
    {X_MissingContent N_MissingContent_ : Addr} {nm_MissingContent q_MissingContent : Str} {bs_MissingContent : List Value} {sn_MissingContent : List Str} {sub_MissingContent : List Value} {ab_MissingContent : Bool} {col_MissingContent : Option Bool} {dd_MissingContent : Option Addr} {m0_MissingContent m1_MissingContent m2_MissingContent m3_MissingContent m5_MissingContent : Option Value}
    {dT2 : Addr} {dc_2 : Value} {dod2 : Option Addr} {dn2 : Nat} {dsl2 : Array (Option Value)}
    (aC : PySem.W.nsIn K mainGlobals "Store" = some (some (.ref C)))
    (aB : PySem.W.nsIn K mainGlobals "BuildError" = some (some (.ref XB)))
    (bsp : PySem.W.specialIn K (.ref XB) "__getattribute__" = some (some (.builtin "type.__getattribute__")))
    (brd : PySem.W.readsIn K XB (.type "type") = true)
    (bfi : PySem.W.findCls K (.ref XB) (.type "type") "__init__" = some (.val (.builtin "ValueError.__init__")))
    (bhd : PySem.W.hasDictIn K XB = true)
    (bty : PySem.W.typeIn K (.ref XB) = some (.type "type"))
    (xgs : PySem.W.specialIn K (.builtin "object.__class__") "__get__" = some (some (.builtin "getset_descriptor.__get__")))
    (xtk : PySem.W.takesIn K (.builtin "object.__class__") = some true)
    (xa_MissingContent : PySem.W.nsIn K mainGlobals "MissingContent" = some (some (.ref X_MissingContent)))
    (xL_MissingContent : K.lookup X_MissingContent = some (excClassObj nm_MissingContent q_MissingContent X_MissingContent N_MissingContent_ bs_MissingContent [.ref XB, .type "ValueError", .type "Exception", .type "BaseException", .type "object"] true sn_MissingContent sub_MissingContent ab_MissingContent col_MissingContent dd_MissingContent m0_MissingContent m1_MissingContent m2_MissingContent m3_MissingContent m5_MissingContent "ValueError.__new__"))
    (xsa_MissingContent : PySem.W.findIn K (.ref X_MissingContent) "__setattr__" = some (some (.builtin "object.__setattr__")))
    (xex_MissingContent : PySem.W.subIn K (.ref X_MissingContent) (.type "BaseException") = some true)
    (xty_MissingContent : PySem.W.typeIn K (.ref X_MissingContent) = some (.type "type"))
    (xkc_MissingContent : PySem.W.keepIn K (.ref X_MissingContent) = true)
    (xnkey_MissingContent : PySem.W.findIn K (.ref X_MissingContent) "key" = some none)
    (xga_MissingContent : PySem.W.findIn K (.ref X_MissingContent) "__getattribute__" = some (some (.builtin "BaseException.__getattribute__")))
    (xgg_MissingContent : PySem.W.findIn K (.ref X_MissingContent) "__getattr__" = some none)
    (xhd_MissingContent : PySem.W.hasDictIn K X_MissingContent = true)
    (xcl_MissingContent : PySem.W.findIn K (.ref X_MissingContent) "__class__" = some (some (.builtin "object.__class__")))
    (xmr_MissingContent : PySem.W.mroIn K X_MissingContent (.type "object") = some true)
    (xcc_MissingContent : PySem.W.subIn K (.ref X_MissingContent) (.ref X_MissingContent) = some true)
    (xkB_MissingContent : PySem.W.subIn K (.ref X_MissingContent) (.ref XB) = some true)
    (a0 : PySem.W.findIn K (.ref X_MissingContent) "__init__" = some (some (.ref f0)))
    (i0 : PySem.W.typeIn K (.ref f0) = some (.type "function"))
    (l0 : K.lookup f0 = some ⟨oc0, od0, .func (PySem.W.fnOf "__init__" "MissingContent.__init__" (defArgs s_MissingContent___init__) (defBody s_MissingContent___init__) (defScope s_MissingContent___init__) .none kV0 dc0 pm0 an0 cd0 ct0), sl0⟩)
    (c0 : PySem.W.codeIn K cd0 "MissingContent.__init__" = true)
    (k0 : PySem.W.keepIn K (.ref f0) = true)
    (a1 : PySem.W.nsIn K mainGlobals "content_key" = some (some (.ref f1)))
    (l1 : K.lookup f1 = some ⟨oc1, od1, .func (PySem.W.fnOf "content_key" "content_key" (defArgs s_content_key) (defBody s_content_key) (defScope s_content_key) .none kV1 dc1 pm1 an1 cd1 ct1), sl1⟩)
    (c1 : PySem.W.codeIn K cd1 "content_key" = true)
    (k1 : PySem.W.keepIn K (.ref f1) = true)
    (a2 : PySem.W.findIn K (.ref C) "__init__" = some (some (.ref f2)))
    (i2 : PySem.W.isFn K (.ref f2) = true)
    (l2 : K.lookup f2 = some ⟨oc2, od2, .func (PySem.W.fnOf "__init__" "Store.__init__" (defArgs s_Store___init__) (defBody s_Store___init__) (defScope s_Store___init__) (.ref dT2) kV2 dc2 pm2 an2 cd2 ct2), sl2⟩)
    (dl2 : K.lookup dT2 = some ⟨dc_2, dod2, .seq #[.none] dn2, dsl2⟩)
    (c2 : PySem.W.codeIn K cd2 "Store.__init__" = true)
    (k2 : PySem.W.keepIn K (.ref f2) = true)
    (a3 : PySem.W.findIn K (.ref C) "has_content" = some (some (.ref f3)))
    (i3 : PySem.W.isFn K (.ref f3) = true)
    (l3 : K.lookup f3 = some ⟨oc3, od3, .func (PySem.W.fnOf "has_content" "Store.has_content" (defArgs s_Store_has_content) (defBody s_Store_has_content) (defScope s_Store_has_content) .none kV3 dc3 pm3 an3 cd3 ct3), sl3⟩)
    (c3 : PySem.W.codeIn K cd3 "Store.has_content" = true)
    (k3 : PySem.W.keepIn K (.ref f3) = true)
    (a4 : PySem.W.findIn K (.ref C) "put_content" = some (some (.ref f4)))
    (i4 : PySem.W.isFn K (.ref f4) = true)
    (l4 : K.lookup f4 = some ⟨oc4, od4, .func (PySem.W.fnOf "put_content" "Store.put_content" (defArgs s_Store_put_content) (defBody s_Store_put_content) (defScope s_Store_put_content) .none kV4 dc4 pm4 an4 cd4 ct4), sl4⟩)
    (c4 : PySem.W.codeIn K cd4 "Store.put_content" = true)
    (k4 : PySem.W.keepIn K (.ref f4) = true)
    (a5 : PySem.W.findIn K (.ref C) "content" = some (some (.ref f5)))
    (i5 : PySem.W.isFn K (.ref f5) = true)
    (l5 : K.lookup f5 = some ⟨oc5, od5, .func (PySem.W.fnOf "content" "Store.content" (defArgs s_Store_content) (defBody s_Store_content) (defScope s_Store_content) .none kV5 dc5 pm5 an5 cd5 ct5), sl5⟩)
    (c5 : PySem.W.codeIn K cd5 "Store.content" = true)
    (k5 : PySem.W.keepIn K (.ref f5) = true)
    (a6 : PySem.W.findIn K (.ref C) "_check_content" = some (some (.ref f6)))
    (i6 : PySem.W.isFn K (.ref f6) = true)
    (l6 : K.lookup f6 = some ⟨oc6, od6, .func (PySem.W.fnOf "_check_content" "Store._check_content" (defArgs s_Store__check_content) (defBody s_Store__check_content) (defScope s_Store__check_content) .none kV6 dc6 pm6 an6 cd6 ct6), sl6⟩)
    (c6 : PySem.W.codeIn K cd6 "Store._check_content" = true)
    (k6 : PySem.W.keepIn K (.ref f6) = true)
    (a7 : PySem.W.findIn K (.ref C) "lose_content" = some (some (.ref f7)))
    (i7 : PySem.W.isFn K (.ref f7) = true)
    (l7 : K.lookup f7 = some ⟨oc7, od7, .func (PySem.W.fnOf "lose_content" "Store.lose_content" (defArgs s_Store_lose_content) (defBody s_Store_lose_content) (defScope s_Store_lose_content) .none kV7 dc7 pm7 an7 cd7 ct7), sl7⟩)
    (c7 : PySem.W.codeIn K cd7 "Store.lose_content" = true)
    (k7 : PySem.W.keepIn K (.ref f7) = true)
    (a8 : PySem.W.findIn K (.ref C) "damage_content" = some (some (.ref f8)))
    (i8 : PySem.W.isFn K (.ref f8) = true)
    (l8 : K.lookup f8 = some ⟨oc8, od8, .func (PySem.W.fnOf "damage_content" "Store.damage_content" (defArgs s_Store_damage_content) (defBody s_Store_damage_content) (defScope s_Store_damage_content) .none kV8 dc8 pm8 an8 cd8 ct8), sl8⟩)
    (c8 : PySem.W.codeIn K cd8 "Store.damage_content" = true)
    (k8 : PySem.W.keepIn K (.ref f8) = true)
    (a9 : PySem.W.findIn K (.ref C) "content_keys" = some (some (.ref f9)))
    (i9 : PySem.W.isFn K (.ref f9) = true)
    (l9 : K.lookup f9 = some ⟨oc9, od9, .func (PySem.W.fnOf "content_keys" "Store.content_keys" (defArgs s_Store_content_keys) (defBody s_Store_content_keys) (defScope s_Store_content_keys) .none kV9 dc9 pm9 an9 cd9 ct9), sl9⟩)
    (c9 : PySem.W.codeIn K cd9 "Store.content_keys" = true)
    (k9 : PySem.W.keepIn K (.ref f9) = true)
    (a10 : PySem.W.nsIn K mainGlobals "_law_cell" = some (some (.ref f10)))
    (l10 : K.lookup f10 = some ⟨oc10, od10, .func (PySem.W.fnOf "_law_cell" "_law_cell" (defArgs s__law_cell) (defBody s__law_cell) (defScope s__law_cell) .none kV10 dc10 pm10 an10 cd10 ct10), sl10⟩)
    (c10 : PySem.W.codeIn K cd10 "_law_cell" = true)
    (k10 : PySem.W.keepIn K (.ref f10) = true)
    (a11 : PySem.W.nsIn K mainGlobals "_law_numbers" = some (some (.ref f11)))
    (l11 : K.lookup f11 = some ⟨oc11, od11, .func (PySem.W.fnOf "_law_numbers" "_law_numbers" (defArgs s__law_numbers) (defBody s__law_numbers) (defScope s__law_numbers) .none kV11 dc11 pm11 an11 cd11 ct11), sl11⟩)
    (c11 : PySem.W.codeIn K cd11 "_law_numbers" = true)
    (k11 : PySem.W.keepIn K (.ref f11) = true)
    (a12 : PySem.W.nsIn K mainGlobals "_law_text" = some (some (.ref f12)))
    (l12 : K.lookup f12 = some ⟨oc12, od12, .func (PySem.W.fnOf "_law_text" "_law_text" (defArgs s__law_text) (defBody s__law_text) (defScope s__law_text) .none kV12 dc12 pm12 an12 cd12 ct12), sl12⟩)
    (c12 : PySem.W.codeIn K cd12 "_law_text" = true)
    (k12 : PySem.W.keepIn K (.ref f12) = true)
    (a13 : PySem.W.nsIn K mainGlobals "_law_asked" = some (some (.ref f13)))
    (l13 : K.lookup f13 = some ⟨oc13, od13, .func (PySem.W.fnOf "_law_asked" "_law_asked" (defArgs s__law_asked) (defBody s__law_asked) (defScope s__law_asked) .none kV13 dc13 pm13 an13 cd13 ct13), sl13⟩)
    (c13 : PySem.W.codeIn K cd13 "_law_asked" = true)
    (k13 : PySem.W.keepIn K (.ref f13) = true)
    (a14 : PySem.W.nsIn K mainGlobals "_law_deed" = some (some (.ref f14)))
    (l14 : K.lookup f14 = some ⟨oc14, od14, .func (PySem.W.fnOf "_law_deed" "_law_deed" (defArgs s__law_deed) (defBody s__law_deed) (defScope s__law_deed) .none kV14 dc14 pm14 an14 cd14 ct14), sl14⟩)
    (c14 : PySem.W.codeIn K cd14 "_law_deed" = true)
    (k14 : PySem.W.keepIn K (.ref f14) = true)
    (a15 : PySem.W.nsIn K mainGlobals "law" = some (some (.ref f15)))
    (l15 : K.lookup f15 = some ⟨oc15, od15, .func (PySem.W.fnOf "law" "law" (defArgs s_law) (defBody s_law) (defScope s_law) .none kV15 dc15 pm15 an15 cd15 ct15), sl15⟩)
    (c15 : PySem.W.codeIn K cd15 "law" = true)
    (k15 : PySem.W.keepIn K (.ref f15) = true)
    (pg : PySem.W.plainGet K C Str.empty = true)
    (hdi : PySem.W.hasDictIn K C = true)
    (po : PySem.W.plainOver K C = true)
    (sa : PySem.W.findIn K (.ref C) "__setattr__" = some (some (.builtin "object.__setattr__")))
    (mk : PySem.W.makesIn K C = true)
    (kc : PySem.W.keepIn K (.ref C) = true)
    (na_journal : PySem.W.findIn K (.ref C) "journal" = some none)
    (na__texts : PySem.W.findIn K (.ref C) "_texts" = some none)
    (na__rows : PySem.W.findIn K (.ref C) "_rows" = some none)
    (zb_abs : PySem.W.nsIn K mainGlobals "abs" = some none)
    (zb_bool : PySem.W.nsIn K mainGlobals "bool" = some none)
    (zb_int : PySem.W.nsIn K mainGlobals "int" = some none)
    (zb_isinstance : PySem.W.nsIn K mainGlobals "isinstance" = some none)
    (zb_len : PySem.W.nsIn K mainGlobals "len" = some none)
    (zb_list : PySem.W.nsIn K mainGlobals "list" = some none)
    (zb_max : PySem.W.nsIn K mainGlobals "max" = some none)
    (zb_min : PySem.W.nsIn K mainGlobals "min" = some none)
    (zb_ord : PySem.W.nsIn K mainGlobals "ord" = some none)
    (zb_range : PySem.W.nsIn K mainGlobals "range" = some none)
    (zb_sorted : PySem.W.nsIn K mainGlobals "sorted" = some none)
    : ∃ fd : FuncData, (∀ (s : Shared) (v : Value), BindsTo s fd ⟨[v], []⟩ [("script", v)]) ∧ ∀ base : Heap, K.In base → base.Ns mainGlobals mg → FnOk l.prog w K mg base CX0 6 fa fd ["script"] (sp_law K) := by
  cases hfa.symm.trans (PySem.W.mg_of X G a15)
  have T : Tx mg := ⟨PySem.W.mg_none_of X G zb_abs, PySem.W.mg_none_of X G zb_bool, PySem.W.mg_none_of X G zb_int, PySem.W.mg_none_of X G zb_isinstance, PySem.W.mg_none_of X G zb_len, PySem.W.mg_none_of X G zb_list, PySem.W.mg_none_of X G zb_max, PySem.W.mg_none_of X G zb_min, PySem.W.mg_none_of X G zb_ord, PySem.W.mg_none_of X G zb_range, PySem.W.mg_none_of X G zb_sorted⟩
  have TC : Tc K C := ⟨⟨pg, hdi, po, sa⟩, na_journal, na__texts, na__rows⟩
  have x_MissingContent : Kn.Xc K X_MissingContent XB := ⟨⟨⟨nm_MissingContent, q_MissingContent, N_MissingContent_, bs_MissingContent, _, sn_MissingContent, sub_MissingContent, ab_MissingContent, col_MissingContent, dd_MissingContent, m0_MissingContent, m1_MissingContent, m2_MissingContent, m3_MissingContent, m5_MissingContent, xL_MissingContent, rfl⟩, xsa_MissingContent, xex_MissingContent, xty_MissingContent, xkc_MissingContent⟩, ⟨xga_MissingContent, xgg_MissingContent, xex_MissingContent, xhd_MissingContent, xcl_MissingContent, xgs, xtk, xmr_MissingContent⟩, ⟨xga_MissingContent, xgg_MissingContent, xex_MissingContent, xhd_MissingContent⟩, PySem.W.exm_ref xex_MissingContent xhd_MissingContent xty_MissingContent xcc_MissingContent, Kn.kit_ref bhd bty xkB_MissingContent xcc_MissingContent⟩
  let GX : Gx K mg := { c_BuildError := XB, g_BuildError := PySem.W.mg_of X G aB, b_BuildError := ⟨bsp, brd, bfi⟩, c_MissingContent := X_MissingContent, g_MissingContent := PySem.W.mg_of X G xa_MissingContent, x_MissingContent := x_MissingContent, n_MissingContent_key := xnkey_MissingContent }
  have F0 := fun_mk (st := s_MissingContent___init__) l0 c0 k0
  have b0 := F0.binds (ps := ["self", "key"]) fun _ _ _ _ _ _ us hl => match us, hl with | [_, _], _ => rfl
  have F1 := fun_mk (st := s_content_key) l1 c1 k1
  have b1 := F1.binds (ps := ["text"]) fun _ _ _ _ _ _ us hl => match us, hl with | [_], _ => rfl
  have F2 : FunD K "__init__" "Store.__init__" (defArgs s_Store___init__) (defBody s_Store___init__) (defScope s_Store___init__) [.non] [] f2 _ := ⟨⟨_, _, _, _, _, _, _, _, _, _, rfl, l2, c2, Kn.dfl_one dl2 rfl, .inl rfl⟩, k2⟩
  obtain ⟨ds2, rd2, b2⟩ := F2.binds1 (ps := ["self", "journal"]) 1 0 (by simp) rfl (fun _ _ _ _ _ _ _ us its hl hi => match us, hl, its, hi with | [_], _, [_], _ => ⟨_, rfl, rfl⟩)
  have F3 := fun_mk (st := s_Store_has_content) l3 c3 k3
  have b3 := F3.binds (ps := ["self", "key"]) fun _ _ _ _ _ _ us hl => match us, hl with | [_, _], _ => rfl
  have F4 := fun_mk (st := s_Store_put_content) l4 c4 k4
  have b4 := F4.binds (ps := ["self", "text"]) fun _ _ _ _ _ _ us hl => match us, hl with | [_, _], _ => rfl
  have F5 := fun_mk (st := s_Store_content) l5 c5 k5
  have b5 := F5.binds (ps := ["self", "key"]) fun _ _ _ _ _ _ us hl => match us, hl with | [_, _], _ => rfl
  have F6 := fun_mk (st := s_Store__check_content) l6 c6 k6
  have b6 := F6.binds (ps := ["self", "key"]) fun _ _ _ _ _ _ us hl => match us, hl with | [_, _], _ => rfl
  have F7 := fun_mk (st := s_Store_lose_content) l7 c7 k7
  have b7 := F7.binds (ps := ["self", "key"]) fun _ _ _ _ _ _ us hl => match us, hl with | [_, _], _ => rfl
  have F8 := fun_mk (st := s_Store_damage_content) l8 c8 k8
  have b8 := F8.binds (ps := ["self", "key", "text"]) fun _ _ _ _ _ _ us hl => match us, hl with | [_, _, _], _ => rfl
  have F9 := fun_mk (st := s_Store_content_keys) l9 c9 k9
  have b9 := F9.binds (ps := ["self"]) fun _ _ _ _ _ _ us hl => match us, hl with | [_], _ => rfl
  have F10 := fun_mk (st := s__law_cell) l10 c10 k10
  have b10 := F10.binds (ps := ["script", "k"]) fun _ _ _ _ _ _ us hl => match us, hl with | [_, _], _ => rfl
  have F11 := fun_mk (st := s__law_numbers) l11 c11 k11
  have b11 := F11.binds (ps := ["cell", "count"]) fun _ _ _ _ _ _ us hl => match us, hl with | [_, _], _ => rfl
  have F12 := fun_mk (st := s__law_text) l12 c12 k12
  have b12 := F12.binds (ps := ["n", "size"]) fun _ _ _ _ _ _ us hl => match us, hl with | [_, _], _ => rfl
  have F13 := fun_mk (st := s__law_asked) l13 c13 k13
  have b13 := F13.binds (ps := ["store", "kept", "keys"]) fun _ _ _ _ _ _ us hl => match us, hl with | [_, _, _], _ => rfl
  have F14 := fun_mk (st := s__law_deed) l14 c14 k14
  have b14 := F14.binds (ps := ["store", "kept", "n", "text", "other"]) fun _ _ _ _ _ _ us hl => match us, hl with | [_, _, _, _, _], _ => rfl
  have F15 := fun_mk (st := s_law) l15 c15 k15
  have b15 := F15.binds (ps := ["script"]) fun _ _ _ _ _ _ us hl => match us, hl with | [_], _ => rfl
  refine ⟨PySem.W.fnOf "law" "law" (defArgs s_law) (defBody s_law) (defScope s_law) .none kV15 dc15 pm15 an15 cd15 ct15, fun s v => .of_eq rfl, fun base _ _ => ?_⟩
  have Z_MissingContent : Kn.Xk l.prog w K mg base 1 "MissingContent" GX.c_MissingContent (sp_I1v "key" K) := ⟨x_MissingContent.oe, _, _, _, a0, i0, ok_MissingContent___init__ F0 T GX, b0, PySem.W.mg_of X G xa_MissingContent⟩
  have C_content_key : Kn.Cl l.prog w K mg base 1 "content_key" (sp_content_key K) := Kn.cl_of (ok_content_key F1 T GX) F1 (PySem.W.mg_of X G a1) b1
  have M_Store : Kn.MkrD l.prog w K mg base 1 "Store" C (sp_Store___init__ C K) [.non] := ⟨_, _, _, _, ⟨mk, a2, i2, kc⟩, ok_Store___init__ F2 T GX TC, PySem.W.mg_of X G aC, b2, rd2⟩
  have M_Store_has_content : Kn.Mt l.prog w K mg base 2 C "has_content" (sp_Store_has_content C K) := ⟨_, _, _, TC.cl, ⟨a3, i3, k3⟩, ok_Store_has_content F3 T GX TC C_content_key, b3⟩
  have M_Store_put_content : Kn.Mt l.prog w K mg base 3 C "put_content" (sp_Store_put_content C K) := ⟨_, _, _, TC.cl, ⟨a4, i4, k4⟩, ok_Store_put_content F4 T GX TC C_content_key M_Store_has_content, b4⟩
  have M_Store_content : Kn.MtX l.prog w K mg base 3 C "content" (sp_Store_content C GX) := ⟨_, _, _, TC.cl, ⟨a5, i5, k5⟩, ok_Store_content F5 T GX TC M_Store_has_content Z_MissingContent, b5⟩
  have M_Store__check_content : Kn.MtX l.prog w K mg base 3 C "_check_content" (sp_Store__check_content C GX) := ⟨_, _, _, TC.cl, ⟨a6, i6, k6⟩, ok_Store__check_content F6 T GX TC Z_MissingContent, b6⟩
  have M_Store_lose_content : Kn.MtX l.prog w K mg base 4 C "lose_content" (sp_Store_lose_content C GX) := ⟨_, _, _, TC.cl, ⟨a7, i7, k7⟩, ok_Store_lose_content F7 T GX TC M_Store__check_content, b7⟩
  have M_Store_damage_content : Kn.MtX l.prog w K mg base 4 C "damage_content" (sp_Store_damage_content C GX) := ⟨_, _, _, TC.cl, ⟨a8, i8, k8⟩, ok_Store_damage_content F8 T GX TC M_Store__check_content, b8⟩
  have M_Store_content_keys : Kn.Mt l.prog w K mg base 1 C "content_keys" (sp_Store_content_keys C K) := ⟨_, _, _, TC.cl, ⟨a9, i9, k9⟩, ok_Store_content_keys F9 T GX TC, b9⟩
  have C__law_cell : Kn.Cl l.prog w K mg base 1 "_law_cell" (sp__law_cell K) := Kn.cl_of (ok__law_cell F10 T GX) F10 (PySem.W.mg_of X G a10) b10
  have C__law_numbers : Kn.Cl l.prog w K mg base 1 "_law_numbers" (sp__law_numbers K) := Kn.cl_of (ok__law_numbers F11 T GX) F11 (PySem.W.mg_of X G a11) b11
  have C__law_text : Kn.Cl l.prog w K mg base 1 "_law_text" (sp__law_text K) := Kn.cl_of (ok__law_text F12 T GX) F12 (PySem.W.mg_of X G a12) b12
  have C__law_asked : Kn.Cl l.prog w K mg base 4 "_law_asked" (sp__law_asked C GX) := Kn.cl_of (ok__law_asked F13 T GX TC M_Store_content_keys M_Store_has_content M_Store_content C_content_key) F13 (PySem.W.mg_of X G a13) b13
  have C__law_deed : Kn.Cl l.prog w K mg base 5 "_law_deed" (sp__law_deed C GX) := Kn.cl_of (ok__law_deed F14 T GX TC C_content_key M_Store_put_content M_Store_lose_content M_Store_damage_content) F14 (PySem.W.mg_of X G a14) b14
  exact ok_law F15 T GX TC C__law_cell C__law_numbers C__law_text C__law_asked C__law_deed C_content_key M_Store
end My
open PySem PySem.W PyProof.Rows
set_option maxHeartbeats 0 in
theorem PySem.Challenge.cw_kilnyard_k43_contents_of_a_store_holds : PySem.Challenge.rw_kilnyard_k43_contents_of_a_store.Holds := by
  w_on; o_law; k_head; (case hw => w_witness2)
  k_fill
  refine L2.walk_of (l := PySem.Challenge.rw_kilnyard_k43_contents_of_a_store) (n := 63) (k := 6) (x := "script") (CX := fun _ => L2.CX0) (sp := fun w => My.sp_law _) rfl (by decide) rfl ⟨rfl, by decide, by decide⟩ (fun w h Y => PySem.W.kIn_of Y) ?F (fun _ _ a ns hl _ hS => ⟨a, ns, rfl, ⟨hS, hl⟩, fun _ _ => rfl⟩) (fun _ _ _ _ _ h => h)
  case F =>
    intro w mg fa h KX G hmg
    refine' My.all_mk KX G hmg ?aC ?aB ?bsp ?brd ?bfi ?bhd ?bty ?xgs ?xtk ?xa_MissingContent ?xL_MissingContent ?xsa_MissingContent ?xex_MissingContent ?xty_MissingContent ?xkc_MissingContent ?xnkey_MissingContent ?xga_MissingContent ?xgg_MissingContent ?xhd_MissingContent ?xcl_MissingContent ?xmr_MissingContent ?xcc_MissingContent ?xkB_MissingContent ?a0 ?i0 ?l0 ?c0 ?k0 ?a1 ?l1 ?c1 ?k1 ?a2 ?i2 ?l2 ?dl2 ?c2 ?k2 ?a3 ?i3 ?l3 ?c3 ?k3 ?a4 ?i4 ?l4 ?c4 ?k4 ?a5 ?i5 ?l5 ?c5 ?k5 ?a6 ?i6 ?l6 ?c6 ?k6 ?a7 ?i7 ?l7 ?c7 ?k7 ?a8 ?i8 ?l8 ?c8 ?k8 ?a9 ?i9 ?l9 ?c9 ?k9 ?a10 ?l10 ?c10 ?k10 ?a11 ?l11 ?c11 ?k11 ?a12 ?l12 ?c12 ?k12 ?a13 ?l13 ?c13 ?k13 ?a14 ?l14 ?c14 ?k14 ?a15 ?l15 ?c15 ?k15 ?pg ?hdi ?po ?sa ?mk ?kc ?na_journal ?na__texts ?na__rows ?zb_abs ?zb_bool ?zb_int ?zb_isinstance ?zb_len ?zb_list ?zb_max ?zb_min ?zb_ord ?zb_range ?zb_sorted
    (case aC => k_is)
    (case aB => k_is)
    (case bsp => k_is)
    (case brd => k_is)
    (case bfi => k_is)
    (case bhd => k_is)
    (case bty => k_is)
    (case xgs => k_is)
    (case xtk => k_is)
    (case xa_MissingContent => k_is)
    (case xL_MissingContent => k_is)
    (case xsa_MissingContent => k_is)
    (case xex_MissingContent => k_is)
    (case xty_MissingContent => k_is)
    (case xkc_MissingContent => k_is)
    (case xnkey_MissingContent => k_is)
    (case xga_MissingContent => k_is)
    (case xgg_MissingContent => k_is)
    (case xhd_MissingContent => k_is)
    (case xcl_MissingContent => k_is)
    (case xmr_MissingContent => k_is)
    (case xcc_MissingContent => first | rfl | k_is)
    (case xkB_MissingContent => k_is)
    (case a0 => k_is)
    (case i0 => k_is)
    (case l0 => k_is)
    (case c0 => k_is)
    (case k0 => k_is)
    (case a1 => k_is)
    (case l1 => k_is)
    (case c1 => k_is)
    (case k1 => k_is)
    (case a2 => k_is)
    (case i2 => k_is)
    (case l2 => k_is)
    (case dl2 => k_is)
    (case c2 => k_is)
    (case k2 => k_is)
    (case a3 => k_is)
    (case i3 => k_is)
    (case l3 => k_is)
    (case c3 => k_is)
    (case k3 => k_is)
    (case a4 => k_is)
    (case i4 => k_is)
    (case l4 => k_is)
    (case c4 => k_is)
    (case k4 => k_is)
    (case a5 => k_is)
    (case i5 => k_is)
    (case l5 => k_is)
    (case c5 => k_is)
    (case k5 => k_is)
    (case a6 => k_is)
    (case i6 => k_is)
    (case l6 => k_is)
    (case c6 => k_is)
    (case k6 => k_is)
    (case a7 => k_is)
    (case i7 => k_is)
    (case l7 => k_is)
    (case c7 => k_is)
    (case k7 => k_is)
    (case a8 => k_is)
    (case i8 => k_is)
    (case l8 => k_is)
    (case c8 => k_is)
    (case k8 => k_is)
    (case a9 => k_is)
    (case i9 => k_is)
    (case l9 => k_is)
    (case c9 => k_is)
    (case k9 => k_is)
    (case a10 => k_is)
    (case l10 => k_is)
    (case c10 => k_is)
    (case k10 => k_is)
    (case a11 => k_is)
    (case l11 => k_is)
    (case c11 => k_is)
    (case k11 => k_is)
    (case a12 => k_is)
    (case l12 => k_is)
    (case c12 => k_is)
    (case k12 => k_is)
    (case a13 => k_is)
    (case l13 => k_is)
    (case c13 => k_is)
    (case k13 => k_is)
    (case a14 => k_is)
    (case l14 => k_is)
    (case c14 => k_is)
    (case k14 => k_is)
    (case a15 => k_is)
    (case l15 => k_is)
    (case c15 => k_is)
    (case k15 => k_is)
    (case pg => k_is)
    (case hdi => k_is)
    (case po => k_is)
    (case sa => k_is)
    (case mk => k_is)
    (case kc => k_is)
    (case na_journal => k_is)
    (case na__texts => k_is)
    (case na__rows => k_is)
    (case zb_abs => k_is)
    (case zb_bool => k_is)
    (case zb_int => k_is)
    (case zb_isinstance => k_is)
    (case zb_len => k_is)
    (case zb_list => k_is)
    (case zb_max => k_is)
    (case zb_min => k_is)
    (case zb_ord => k_is)
    (case zb_range => k_is)
    (case zb_sorted => k_is)

