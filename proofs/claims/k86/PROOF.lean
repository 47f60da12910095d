import PyProof.Rows.All
import Wide.All
import OpenK.AllK
import Wide.FinOn
import KE.KExcIs
import HandS.ForMost
import HandS.ForExc
import HandS.Codes
import HandS.Wide
import HandS.IsInst
import HandS.ExcInit
import HandS.ExcField
import HandS.ExcIs
import HandS.TryMany
import HandS.CallSlots
import HandS.Defaults
import HandS.Gcd
import HandS.DeepEq
import HandS.Flow
import HandS.TupLe
import PyProof.SumWalk
import PyProof.Rows.CountFlat

import HandS.Walk
import KE.GoesEnum
import HandS.SortInts
import HandS.Style
import HandS.Conv
import HandS.StrMore
import HandS.DictComp
import HandS.Head0
import HandS.Head1
import HandS.Head2
import HandS.Head3
import HandS.HeadEnd
import HandS.HeadHook1
import HandS.HeadHook2
import KE.KStateDown
import HandS.ExcOwn
import HandS.ExcValue
import PyProof.StrOps2
import PyProof.TupleOfSeq
import PySem.Challenge.RW_watchedways_k86_lone_gaps_and_refused
set_option Elab.async false
set_option linter.all false
set_option maxRecDepth 100000
set_option maxHeartbeats 4000000
set_option exponentiation.threshold 3000

/-! ### readings, step by step -/
namespace RD
open PySem L2
section
variable {σ : St} {H : Hp} {Q : VK} {B : Bool → Hp → Prop} {A : List V → Hp → Prop} {K : PySem.W.Frag} {v x y : V} {i j : Int} {n : Nat} {ta tb tc te : TE} {tA tB' : TT} {r r' : R2} {t : TA}
theorem d_var {n : Nat} {v : V} (e : σ[n]? = some (some v)) (h : Q v H) : tVar n σ H Q := ⟨v, e, h⟩
theorem d_c (h : Q v H) : tC v σ H Q := h
theorem d_op (h : ta σ H fun x H1 => tb σ H1 fun y H2 => r x y H2 Q) : tOp r ta tb σ H Q := h
theorem d_un {r : V → Hp → VK → Prop} (h : ta σ H fun x H1 => r x H1 Q) : tUn r ta σ H Q := h
theorem d_cb {r : List V → Hp → VK → Prop} (h : t σ H fun vs H1 => r vs H1 Q) : tCB r t σ H Q := h
theorem d_call {sp : Sp} {dvs : List V} {E : XK} (h : t σ H fun vs H1 => sp (vs ++ dvs) H1 Q E) : tCall sp dvs E t σ H Q := h
theorem d_nil (h : A [] H) : tNil σ H A := h
theorem d_cons {ta : TE} {tr : TA} (h : ta σ H fun x H1 => tr σ H1 fun xs H2 => A (x :: xs) H2) : tCons ta tr σ H A := h
theorem d_lst (h : t σ H fun xs H1 => xs.length ≤ sizeLine ∧ ∀ p, H1 p = none → Q (.ref p) (upd H1 p (.lst xs))) : tLst t σ H Q := h
theorem d_tup (h : t σ H fun xs H1 => xs.length ≤ sizeLine ∧ ∀ p, H1 p = none → Q (.ref p) (upd H1 p (.tup xs))) : tTup t σ H Q := h
theorem d_test (h : ta σ H fun x H' => ∃ k, x = .bl k ∧ B k H') : tTest ta σ H B := h
theorem d_tB (h : ta σ H fun x H' => ∃ k, x = .bl k ∧ B k H') : L2.tB ta σ H B := h
theorem d_bl {b : Bool} {R : Bool → Prop} (h : R b) : ∃ k, V.bl b = .bl k ∧ R k := ⟨b, rfl, h⟩
theorem d_and (h : tA σ H fun c H1 => if c = true then tB' σ H1 B else B false H1) : tAnd tA tB' σ H B := h
theorem d_or (h : tA σ H fun c H1 => if c = true then B true H1 else tB' σ H1 B) : tOr tA tB' σ H B := h
theorem d_not (h : tA σ H fun c H1 => B (!c) H1) : tNot tA σ H B := h
theorem d_andV (h : ta σ H fun x H1 => ∃ c, x = .bl c ∧ if c = true then tb σ H1 Q else Q (.bl false) H1) : tAndV ta tb σ H Q := h
theorem d_orV (h : ta σ H fun x H1 => ∃ c, x = .bl c ∧ if c = true then Q (.bl true) H1 else tb σ H1 Q) : tOrV ta tb σ H Q := h
theorem d_notV (h : ta σ H fun x H1 => ∃ c, x = .bl c ∧ Q (.bl (!c)) H1) : tNotV ta σ H Q := h
theorem d_if (h : tA σ H fun c H1 => if c = true then ta σ H1 Q else tb σ H1 Q) : tIf tA ta tb σ H Q := h
theorem d_rI0 {g : Int → Int → V} (h : Q (g i j) H) : rI0 g (.int i) (.int j) H Q := ⟨i, j, rfl, rfl, h⟩
theorem d_rI {C : Int → Int → Prop} {g : Int → Int → V} (c : C i j) (h : Q (g i j) H) : rI C g (.int i) (.int j) H Q := ⟨i, j, rfl, rfl, c, h⟩
theorem d_rU {g : Int → V} (h : Q (g i) H) : rU g (.int i) H Q := ⟨i, rfl, h⟩
theorem d_eqI (h : Q (.bl (decide (i = j))) H) : rEq (.int i) (.int j) H Q := ⟨rfl, by
  have e : decide (V.int i = V.int j) = decide (i = j) := by rw [dec_int, Bool.eq_iff_iff]; simp
  rw [e]; exact h⟩
theorem d_neI (h : Q (.bl (!decide (i = j))) H) : rNe (.int i) (.int j) H Q := ⟨rfl, by
  have e : decide (V.int i = V.int j) = decide (i = j) := by rw [dec_int, Bool.eq_iff_iff]; simp
  rw [e]; exact h⟩
theorem d_eqB {i j : Bool} (h : Q (.bl (decide (i = j))) H) : rEq (.bl i) (.bl j) H Q := ⟨rfl, by
  have e : decide (V.bl i = V.bl j) = decide (i = j) := by rw [dec_bl, Bool.eq_iff_iff]; simp
  rw [e]; exact h⟩
theorem d_eqS {i j : Str} (h : Q (.bl (decide (i = j))) H) : rEq (.str i) (.str j) H Q := ⟨rfl, by
  have e : decide (V.str i = V.str j) = decide (i = j) := by rw [dec_str, Bool.eq_iff_iff]; simp
  rw [e]; exact h⟩
theorem d_neS {i j : Str} (h : Q (.bl (!decide (i = j))) H) : rNe (.str i) (.str j) H Q := ⟨rfl, by
  have e : decide (V.str i = V.str j) = decide (i = j) := by rw [dec_str, Bool.eq_iff_iff]; simp
  rw [e]; exact h⟩
theorem d_ixL {p : Addr} {xs : List V} {v : V} (hs : SqL K H p xs) (e : atI xs i = some v) (h : Q v H) : rIxL K (.ref p) (.int i) H Q := ⟨p, xs, i, v, rfl, rfl, hs, e, h⟩
theorem d_ixT {p : Addr} {xs : List V} {v : V} (hs : SqT K H p xs) (e : atI xs i = some v) (h : Q v H) : rIxT K (.ref p) (.int i) H Q := ⟨p, xs, i, v, rfl, rfl, hs, e, h⟩
theorem d_setL {p : Addr} {xs : List V} {k : Nat} {R : Hp → Prop} (hp : H p = some (.lst xs)) (e : ixN xs.length i = some k) (h : R (upd H p (.lst (xs.set k v)))) : rSetL (.ref p) (.int i) v H R := ⟨p, xs, i, k, rfl, rfl, hp, e, h⟩
theorem d_gname {R : St → Hp → Prop} (h : R (σ.set n (some v)) H) : gName n v σ H R := h
theorem d_gsub {to ti : TE} {ts : TSet} {R : St → Hp → Prop} (h : to σ H fun o H1 => ti σ H1 fun i H2 => ts o i v H2 fun H3 => R σ H3) : gSub to ti ts v σ H R := h
section
variable {nx bk ct : St → Hp → Prop} {rt : VK} {u w : TS} {g : TG}
theorem d_seq (h : u ⟨w ⟨nx, rt, bk, ct⟩, rt, bk, ct⟩ σ H) : tSeq u w ⟨nx, rt, bk, ct⟩ σ H := h
theorem d_asg (h : te σ H fun x H1 => g x σ H1 nx) : tAsg te g ⟨nx, rt, bk, ct⟩ σ H := h
theorem d_ret (h : te σ H rt) : tRet te ⟨nx, rt, bk, ct⟩ σ H := h
theorem d_next (h : nx σ H) : tNext ⟨nx, rt, bk, ct⟩ σ H := h
theorem d_drop (h : te σ H fun _ H1 => nx σ H1) : tDrop te ⟨nx, rt, bk, ct⟩ σ H := h
theorem d_ifS (h : tA σ H fun b H1 => if b = true then u ⟨nx, rt, bk, ct⟩ σ H1 else w ⟨nx, rt, bk, ct⟩ σ H1) : tIfS tA u w ⟨nx, rt, bk, ct⟩ σ H := h
theorem d_cut (Mid : St → Hp → Prop) (h : u ⟨Mid, rt, bk, ct⟩ σ H) (k : ∀ σ' H', Mid σ' H' → w ⟨nx, rt, bk, ct⟩ σ' H') : C8.tCut u w ⟨nx, rt, bk, ct⟩ σ H := ⟨Mid, h, k⟩
theorem d_par {t : TA} {i j : Nat} (h : t σ H fun vs H1 => ∃ v w, vs = [v, w] ∧ nx ((σ.set i (some v)).set j (some w)) H1) : tPar i j t ⟨nx, rt, bk, ct⟩ σ H := h
end
def rInt1 : List V → Hp → VK → Prop := fun xs H Q => (∃ i, xs = [.int i] ∧ Q (.int i) H) ∨ ∃ k, xs = [.bl k] ∧ Q (.int (if k then 1 else 0)) H
theorem c_int {X : Cx} : CallR X (.type "int") rInt1 := call_int1
theorem d_int (h : Q (.int i) H) : rInt1 [.int i] H Q := .inl ⟨i, rfl, h⟩
theorem d_intB {b : Bool} (h : Q (.int (if b then 1 else 0)) H) : rInt1 [.bl b] H Q := .inr ⟨b, rfl, h⟩
def rAbs : List V → Hp → VK → Prop := fun xs H Q => ∃ i, xs = [.int i] ∧ Q (.int (if i < 0 then -i else i)) H
theorem c_abs {X : Cx} : CallR X (.builtin "abs") rAbs := call_abs
theorem d_abs (h : Q (.int (if i < 0 then -i else i)) H) : rAbs [.int i] H Q := ⟨i, rfl, h⟩
def rLen (K : PySem.W.Frag) : List V → Hp → VK → Prop := fun xs H Q => ∃ x n, xs = [x] ∧ LenV K x H n ∧ Q (.int n) H
theorem c_len {X : Cx} : CallR X (.builtin "len") (rLen X.K) := call_len
theorem d_lenL {p : Addr} {xs : List V} (hs : SqL K H p xs) (h : Q (.int xs.length) H) : rLen K [.ref p] H Q := ⟨_, _, rfl, .inl ⟨xs, hs, rfl⟩, h⟩
theorem d_lenT {p : Addr} {xs : List V} (hs : SqT K H p xs) (h : Q (.int xs.length) H) : rLen K [.ref p] H Q := ⟨_, _, rfl, .inr ⟨xs, hs, rfl⟩, h⟩
theorem d_lenS {z : Str} (hs : z.length ≤ sizeLine) (h : Q (.int z.length) H) : rLen K [.str z] H Q := ⟨_, _, rfl, ⟨hs, rfl⟩, h⟩
def rIsN : R2 := fun x y H Q => y = .non ∧ Q (.bl (decide (x = .non))) H
theorem o_isN {X : Cx} : OpR X (compareOp .Is) rIsN := op_isN
theorem d_isN (h : Q (.bl (decide (x = .non))) H) : rIsN x .non H Q := ⟨rfl, h⟩
def rNotN : R2 := fun x y H Q => y = .non ∧ Q (.bl (!decide (x = .non))) H
theorem o_notN {X : Cx} : OpR X (compareOp .IsNot) rNotN := op_notN
theorem d_notN (h : Q (.bl (!decide (x = .non))) H) : rNotN x .non H Q := ⟨rfl, h⟩
theorem d_iList {tl : TE} {R : It → Hp → Prop} (h : tl σ H fun x H1 => ∃ a, x = .ref a ∧ (∃ xs, SqL K H1 a xs) ∧ R (Itl K a) H1) : iList K tl σ H R := h
theorem d_refL {p : Addr} {xs : List V} {R : Addr → Prop} (hs : SqL K H p xs) (h : R p) : ∃ a, V.ref p = .ref a ∧ (∃ xs, SqL K H a xs) ∧ R a := ⟨p, rfl, ⟨xs, hs⟩, h⟩
theorem d_rng1 {t : TA} {R : It → Hp → Prop} (h : t σ H fun vs H1 => ∃ j : Int, vs = [.int j] ∧ -(2 ^ 62) ≤ j ∧ j < 2 ^ 62 ∧ R (Itr 0 j.toNat) H1) : iRng1 t σ H R := h
theorem d_lc {wi : TI} {g : TG} {tt : TT} {vs : List Nat} (h : wi σ H fun J H1 => ∀ D, H1 D = none → ∃ W : Nat → Nat → Hp → Prop, (∃ m, W 0 m (upd H1 D (.lst []))) ∧ ∀ i m H, W i m H →
  (J.stop i H ∧ Q (.ref D) H) ∨ (J.go i H ∧ ∃ Nx : Hp → Prop, (∀ H', Nx H' → ∃ m', m' < m ∧ W (i + 1) m' H') ∧ ∀ x H', J.yld i H x H' → g x (wipe σ vs) H' fun σ2 H2 => wipe σ2 vs = wipe σ vs ∧ tt σ2 H2 fun b H3 =>
    if b = true then te σ2 H3 fun y H4 => ∃ acc, H4 D = some (.lst acc) ∧ acc.length < sizeLine ∧ Nx (upd H4 D (.lst (acc ++ [y]))) else Nx H3)) : tLc wi g tt te vs σ H Q := h
theorem d_yes (h : B true H) : tYes σ H B := h
theorem d_iteT {X Y : Prop} (h : X) : if true = true then X else Y := by rw [if_pos rfl]; exact h
theorem d_iteF {X Y : Prop} (h : Y) : if false = true then X else Y := by rw [if_neg Bool.false_ne_true]; exact h
theorem d_wipe {R : Prop} {vs : List Nat} {σ' : St} (e : wipe σ' vs = wipe σ vs) (h : R) : wipe σ' vs = wipe σ vs ∧ R := ⟨e, h⟩
theorem d_sl {r : V → Option Int → Option Int → Hp → VK → Prop} {tl th : TO} (h : te σ H fun x H1 => tl σ H1 fun l H2 => th σ H2 fun u H3 => r x l u H3 Q) : tSl r te tl th σ H Q := h
theorem d_noPart {Q : Option Int → Hp → Prop} (h : Q none H) : tNoPart σ H Q := h
theorem d_part {Q : Option Int → Hp → Prop} (h : te σ H fun x H1 => ∃ i, x = .int i ∧ Q (some i) H1) : tPart te σ H Q := h
theorem d_exI {R : Int → Prop} (h : R i) : ∃ k, V.int i = .int k ∧ R k := ⟨i, rfl, h⟩
theorem d_isi {c : V} {t u : Value} {b : Bool} (hc : ClsV c u) (ty : TyX K H x t) (e : PySem.W.kitOne K t u = some b) (h : Q (.bl b) H) : rIsi K [x, c] H Q := ⟨x, c, t, u, b, rfl, hc, ty, e, h⟩
theorem d_fld {f : Str} (h : ta σ H fun x H1 => ∃ a C dx fs v, x = .ref a ∧ H1 a = some (.ins C dx fs) ∧ Cls K C ∧ NoAttr K C f ∧ fs.lookup f = some v ∧ Q v H1) : tFld K ta f σ H Q := h
theorem d_iteNF {X Y : Prop} (h : X) : if (!false) = true then X else Y := by rw [if_pos (show (!false) = true from rfl)]; exact h
theorem d_iteNT {X Y : Prop} (h : Y) : if (!true) = true then X else Y := by rw [if_neg (by decide)]; exact h
theorem d_iteDT {P X Y : Prop} {inst : Decidable P} (c : P) (h : X) : if decide P = true then X else Y := by rw [if_pos (decide_eq_true c)]; exact h
theorem d_iteDF {P X Y : Prop} {inst : Decidable P} (c : ¬ P) (h : Y) : if decide P = true then X else Y := by rw [if_neg (by simpa using c)]; exact h
theorem d_gcd (h : Q (.int ((Nat.gcd i.natAbs j.natAbs : Nat) : Int)) H) : rGcd [.int i, .int j] H Q := ⟨i, j, rfl, h⟩
theorem d_sfld {f : Str} {tv : TE} {nx bk ct : St → Hp → Prop} {rt : VK} (h : tv σ H fun y H1 => ta σ H1 fun x H2 => ∃ a C dx fs, x = .ref a ∧ H2 a = some (.ins C dx fs) ∧ Cls K C ∧ NoAttr K C f ∧ fs.length < 1000 ∧
  nx σ (upd H2 a (.ins C dx (putF f y fs)))) : sFld K ta tv f ⟨nx, rt, bk, ct⟩ σ H := h
theorem d_for {wi : TI} {g : TG} {tb : TS} {nx bk ct : St → Hp → Prop} {rt : VK} (h : wi σ H fun J H1 => ∃ W : Nat → Nat → St → Hp → Prop, (∃ m, W 0 m σ H1) ∧ ∀ i m σ H, W i m σ H →
  (J.stop i H ∧ nx σ H) ∨ (J.go i H ∧ ∃ N : St → Hp → Prop, (∀ σ' H', N σ' H' → ∃ m', m' < m ∧ W (i + 1) m' σ' H') ∧ ∀ x H', J.yld i H x H' → g x σ H' fun σ2 H2 => tb ⟨N, rt, nx, N⟩ σ2 H2)) :
  tFor wi g tb ⟨nx, rt, bk, ct⟩ σ H := h
theorem f_range {lo : Int} {n : Nat} {g : TG} {tb : TS} {nx : St → Hp → Prop} {rt : VK} (Pv : Nat → St → Hp → Prop) (h0 : Pv 0 σ H)
    (hs : ∀ i σ H, i < n → Pv i σ H → g (.int (lo + i)) σ H fun σ2 H2 => tb ⟨Pv (i + 1), rt, nx, Pv (i + 1)⟩ σ2 H2) (hd : ∀ σ H, Pv n σ H → nx σ H) :
    ∃ W : Nat → Nat → St → Hp → Prop, (∃ m, W 0 m σ H) ∧ ∀ i m σ H, W i m σ H → ((Itr lo n).stop i H ∧ nx σ H) ∨ ((Itr lo n).go i H ∧ ∃ N : St → Hp → Prop, (∀ σ' H', N σ' H' → ∃ m', m' < m ∧ W (i + 1) m' σ' H') ∧
      ∀ x H', (Itr lo n).yld i H x H' → g x σ H' fun σ2 H2 => tb ⟨N, rt, nx, N⟩ σ2 H2) := for_range (D := ⟨nx, rt, fun _ _ => False, fun _ _ => False⟩) Pv h0 hs hd
theorem f_list {K : PySem.W.Frag} {a : Addr} {xs : List V} {g : TG} {tb : TS} {nx : St → Hp → Prop} {rt : VK} (Pv : Nat → St → Hp → Prop) (h0 : Pv 0 σ H) (hl : ∀ i σ H, i ≤ xs.length → Pv i σ H → SqL K H a xs)
    (hs : ∀ i x σ H, xs[i]? = some x → Pv i σ H → g x σ H fun σ2 H2 => tb ⟨Pv (i + 1), rt, nx, Pv (i + 1)⟩ σ2 H2) (hd : ∀ σ H, Pv xs.length σ H → nx σ H) :
    ∃ W : Nat → Nat → St → Hp → Prop, (∃ m, W 0 m σ H) ∧ ∀ i m σ H, W i m σ H → ((Itl K a).stop i H ∧ nx σ H) ∨ ((Itl K a).go i H ∧ ∃ N : St → Hp → Prop, (∀ σ' H', N σ' H' → ∃ m', m' < m ∧ W (i + 1) m' σ' H') ∧
      ∀ x H', (Itl K a).yld i H x H' → g x σ H' fun σ2 H2 => tb ⟨N, rt, nx, N⟩ σ2 H2) := for_list (D := ⟨nx, rt, fun _ _ => False, fun _ _ => False⟩) Pv h0 hl hs hd
theorem iteD {P X Y : Prop} {inst : Decidable P} (h1 : P → X) (h2 : ¬ P → Y) : if decide P = true then X else Y := by
  by_cases h : P
  · rw [if_pos (decide_eq_true h)]; exact h1 h
  · rw [if_neg (by simpa using h)]; exact h2 h
theorem iteN {P X Y : Prop} {inst : Decidable P} (h1 : ¬ P → X) (h2 : P → Y) : if (!decide P) = true then X else Y := by
  by_cases h : P
  · rw [if_neg (by simpa using h)]; exact h2 h
  · rw [if_pos (by simpa using h)]; exact h1 h
end
end RD

/-! ### own == and != of a class of the text -/
namespace OQ
open PySem L2 PySem.Spec PyProof.Rows
section
variable {X : Cx} {CX : CXT} {C f : Addr} {fd : FuncData} {ps : List Str} {sp : Sp} {E : XK} {k : Nat}
/-- a def of the text called somewhere below the body that runs -/
theorem run_at {A : Around} (hA : A.frames = X.A.frames) (hr : Room k A) {pins : List (Addr × Obj)} {σ : L2.St} {H : Hp} {s : Shared} {Q : VK} {us : List Value} {vs : List V}
    (F : FnOk X.prog X.w X.K X.mg X.base CX k f fd ps sp) (hb : Binds X.K fd ps []) (hx : Passes CX X E) (I : Inv X pins σ H s) (r : Vals vs us) (h : sp vs H Q E) :
    wpAny (model X.prog X.w) A (call (.ref f) us) (EP X pins σ Q) X.xe s := by
  have z := I.env0
  have e0 : Env0 X.prog X.w X.K X.mg X.base A X.stack s H := ⟨hA ▸ z.frames, z.mod, z.bs, z.bsz, z.funs, z.frf, z.hok, z.bare⟩
  have hl : us.length = ps.length := by rw [← r.length]; exact F.len _ _ _ _ h
  have b := hb s us I.kIn (by rw [List.append_nil]; exact hl)
  rw [List.append_nil] at b
  refine wpAny_call (codeAny_mono (F.run A X.stack s H ⟨us, []⟩ us vs Q E hr e0 b r h) ?_)
  rintro (e | fl) s' hq
  · exact hx pins σ H s e s' I hq
  · cases fl with
    | ret u => exact I.after hq
    | next => exact hq.elim
    | brk => exact hq.elim
    | cont => exact hq.elim
theorem cmpBack_of {pins : List (Addr × Obj)} {σ : L2.St} {Q : VK} {u : Value} {s' : Shared} (h : EP X pins σ Q u s') : PySem.W.CmpBack (EP X pins σ Q) u s' := by
  obtain ⟨v, H', I', r, q⟩ := h
  have e : EP X pins σ Q u s' := ⟨v, H', I', r, q⟩
  cases u <;> first
    | exact e
    | (exfalso; cases v <;> first | exact Value.noConfusion r | (obtain ⟨t, rt⟩ := r; exact Value.noConfusion rt))
/-- x == y by the __eq__ of x's class -/
def rOwnEq (K : PySem.W.Frag) (C : Addr) (sp : Sp) (E : XK) : R2 := fun x y H Q => ∃ a dx fs t, x = .ref a ∧ H a = some (.ins C dx fs) ∧ TyX K H y t ∧ PySem.W.notFirst K C t = true ∧ sp [x, y] H Q E
theorem op_ownEq (F : FnOk X.prog X.w X.K X.mg X.base CX k f fd ps sp) (hr : Room k X.A) (hs : PySem.W.findIn X.K (.ref C) "__eq__" = some (some (.ref f))) (hf : PySem.W.isFn X.K (.ref f) = true)
    (hb : Binds X.K fd ps []) (hx : Passes CX X E) : OpR X (compareOp .Eq) (rOwnEq X.K C sp E) := by
  intro pins s σ H x y v u Q I rx ry hq
  obtain ⟨a, dx, fs, t, rfl, ha, ty, nf, q⟩ := hq
  cases rx
  obtain ⟨_, J0, _⟩ := ins_get I.hok ha
  obtain ⟨_, J, _⟩ := J0.look
  obtain ⟨_, hF⟩ := I.fr
  obtain ⟨_, kx, hp, _⟩ := kit_of I ry ty
  exact PySem.W.cmp_K (op := .Eq) hr.units0 hF I.ok.mod.kin J (kx.ty _ _ I.kIn hp) nf hs hf
    (wpAny_mono (run_at rfl hr F hb hx I (vs := [V.ref a, y]) (us := [Value.ref a, u]) (Paired.cons (show RelV (V.ref a) (Value.ref a) from rfl) (Paired.cons ry .nil)) q) (fun _ _ z => cmpBack_of z) fun _ _ z => z)
/-- looking a builtin slot up at an instance and calling it -/
theorem ifBound_B {M : Model} {A : Around} {E : Value → Shared → Prop} {s : Shared} {K : PySem.W.Frag} {x C : Addr} {ox : Obj} {od : Option Obj} {name : Str} {id : String} {args : List Value} {Q : Option Value → Shared → Prop} (Z : K.In s.heap)
    (I : PySem.W.InstAt s.heap x ox C od) (hs : PySem.W.findIn K (.ref C) name = some (some (.builtin id))) (S : bindSpecial (.builtin id) (.ref x) = pure (Value.builtin id, [Value.ref x]))
    (h : wpAny M A (call (.builtin id) (.ref x :: args)) (fun v => Q (some v)) E s) : wpAny M A (callSpecialIfBound? (.ref x) name args) Q E s := by
  have fin : wpAny M A (call (.builtin id) ([Value.ref x] ++ args) >>= fun v => pure (some v)) Q E s :=
    wpAny_bind (wpAny_mono h (fun _ _ z => wpAny_pure z) fun _ _ z => z)
  have tail : wpAny M A (some <$> (pure (Value.builtin id, [Value.ref x]) : Sem (Value × List Value))) (fun a s' => wpAny M A (match a with
    | some (g, first) => call g (first ++ args) >>= fun v => pure (some v)
    | none => pure none) Q E s') E s := wpAny_bind (wpAny_pure (wpAny_pure fin))
  simp only [callSpecialIfBound?, bindSpecialIfBound?]
  refine wpAny_holding ?_
  refine wpAny_bind ?_
  refine wpAny_bind ?_
  refine wpAny_bind (I.type.here ?_)
  refine (PySem.W.looks_findIn Z hs).here ?_
  simp only [S]
  refine wpAny_bind ?_
  refine wpAny_askSetting ?_
  refine wpAny_ite ?_
  split
  · refine wpAny_bind ?_
    exact wpAny_pure (wpAny_pure fin)
  · refine wpAny_tryCatch ?_
    refine wpAny_bind ?_
    exact wpAny_pure (wpAny_pure fin)
/-- object.__ne__(x, y) by the own __eq__ -/
theorem ne_body {M : Program} {w : World} {A : Around} {E : Value → Shared → Prop} {s : Shared} {K : PySem.W.Frag} {x C f : Addr} {ox : Obj} {od : Option Obj} {b : Value} {Q : Fin → Shared → Prop} (Z : K.In s.heap) (hu : A.units < cLine)
    (I : PySem.W.InstAt s.heap x ox C od) (hs : PySem.W.findIn K (.ref C) "__eq__" = some (some (.ref f))) (hf : PySem.W.isFn K (.ref f) = true)
    (h : wpAny (model M w) A (call (.ref f) [.ref x, b]) (fun v s' => ∃ r, v = .bool r ∧ Q (.done (.ret (.bool (!r)))) s') E s) :
    wpAny (model M w) A (Builtin.«object.__ne__» ⟨[.ref x, b], []⟩) Q E s := by
  unfold Builtin.«object.__ne__»
  have step : wpAny (model M w) A (callSpecialIfBound? (.ref x) "__eq__" [b]) (fun o s' => ∃ r, o = some (.bool r) ∧ Q (.done (.ret (.bool (!r)))) s') E s :=
    PySem.W.ifBound_K Z I hs hf (wpAny_mono h (fun v s' ⟨r, e, q⟩ => ⟨r, by rw [e], q⟩) fun _ _ z => z)
  refine wpAny_bind (wpAny_of_eq (a := ((Value.ref x : Value), [b])) (by first | rfl | (simp only [slotArgs]; rfl)) ?_)
  dsimp only
  refine wpAny_bind (wpAny_cRoomFor hu ?_)
  refine wpAny_bind (wpAny_mono step (fun o s' hv => ?_) fun _ _ z => z)
  obtain ⟨r, rfl, q⟩ := hv
  dsimp only
  refine wpAny_bind ?_
  refine wpAny_truthy_bool ?_
  exact wpAny_pure q
end
/-- x != y by the __eq__ of x's class -/
def rOwnNe (K : PySem.W.Frag) (C : Addr) (sp : Sp) (E : XK) : R2 := fun x y H Q => ∃ a dx fs t, x = .ref a ∧ H a = some (.ins C dx fs) ∧ TyX K H y t ∧ PySem.W.notFirst K C t = true ∧ sp [x, y] H (fun v H' => ∃ r, v = .bl r ∧ Q (.bl (!r)) H') E
section
variable {X : Cx} {CX : CXT} {C f : Addr} {fd : FuncData} {ps : List Str} {sp : Sp} {E : XK} {k : Nat}
theorem op_ownNe (F : FnOk X.prog X.w X.K X.mg X.base CX k f fd ps sp) (hr : Room (k + 1) X.A) (hs : PySem.W.findIn X.K (.ref C) "__eq__" = some (some (.ref f))) (hf : PySem.W.isFn X.K (.ref f) = true)
    (hn : PySem.W.findIn X.K (.ref C) "__ne__" = some (some (.builtin "object.__ne__"))) (hm : PySem.W.mroIn X.K C (.type "object") = some true)
    (hb : Binds X.K fd ps []) (hx : Passes CX X E) : OpR X (compareOp .NotEq) (rOwnNe X.K C sp E) := by
  intro pins s σ H x y v u Q I rx ry hq
  obtain ⟨a, dx, fs, t, rfl, ha, ty, nf, q⟩ := hq
  cases rx
  obtain ⟨_, J0, _⟩ := ins_get I.hok ha
  obtain ⟨_, J, _⟩ := J0.look
  obtain ⟨_, hF⟩ := I.fr
  obtain ⟨_, kx, hp, _⟩ := kit_of I ry ty
  have hlook := kx.ty (model X.prog X.w) _ I.kIn hp
  have hu := hr.units0
  have body := ne_body (M := X.prog) (w := X.w) (A := X.A.in1) (E := X.xe) (b := u) (Q := fun fin s' => ∃ r : Bool, fin = .done (.ret (.bool r)) ∧ EP X pins σ Q (.bool r) s') I.kIn hr.in1.units0 J hs hf
    (wpAny_mono (run_at (A := X.A.in1) rfl hr.in1 F hb hx I (vs := [V.ref a, y]) (us := [Value.ref a, u]) (Paired.cons (show RelV (V.ref a) (Value.ref a) from rfl) (Paired.cons ry .nil)) q) (fun w' s' z => by
      obtain ⟨v', H', I', rr, r, e, q'⟩ := z
      subst e
      exact ⟨r, rr, !r, rfl, .bl (!r), H', I', rfl, q'⟩) fun _ _ z => z)
  have one : wpAny (model X.prog X.w) X.A (tryCompare (.ref a) "__ne__" u) (fun o s' => ∃ r : Bool, o = some (.bool r) ∧ EP X pins σ Q (.bool r) s') X.xe s := by
    unfold tryCompare
    refine wpAny_bind (ifBound_B I.kIn J hn (PySem.F.cmp_object.ne.bind _) (wpAny_call (codeAny_call_builtin PySem.F.cmp_object.ne.plain PySem.F.cmpEntry_ne ?_)))
    refine PySem.W.check_slot PySem.F.cmpKind_ne PySem.F.cmpSplit_ne (J.type.andThen (PySem.W.looks_mroIn I.kIn hm)) (PySem.F.cmpArgs_ne _ _) ?_
    refine wpAny_mono body (fun fin s' z => ?_) fun _ _ z => z
    obtain ⟨r, rfl, ep⟩ := z
    exact wpAny_pure ⟨r, rfl, ep⟩
  show wpAny (model X.prog X.w) X.A (richCompare .NotEq (.ref a) u) (EP X pins σ Q) X.xe s
  unfold richCompare
  simp only [oneThing_ref]
  refine wpAny_holding ?_
  refine wpAny_bind (wpAny_cRoomFor hu ?_)
  refine wpAny_bind (J.type.here ?_)
  refine wpAny_bind (hlook.here ?_)
  have fin : ∀ {β : Type} {z : Value → Sem Value} {y : Sem Value}, True := fun {_ _ _} => trivial
  split
  · rename_i qq
    have e : PySem.W.subIn X.K t (.ref C) = some false := by
      rcases Bool.or_eq_true_iff.mp nf with e | e
      · rw [beq_iff_eq.mp e] at qq
        simp at qq
      · exact beq_iff_eq.mp e
    refine wpAny_bind ((PySem.W.looks_subIn I.kIn e).here ?_)
    simp only [Bool.false_eq_true, if_false]
    refine wpAny_bind (wpAny_mono one (fun o s' z => ?_) fun _ _ z => z)
    obtain ⟨r, rfl, ep⟩ := z
    exact wpAny_pure ep
  · refine wpAny_bind (wpAny_pure ?_)
    simp only [Bool.false_eq_true, if_false]
    refine wpAny_bind (wpAny_mono one (fun o s' z => ?_) fun _ _ z => z)
    obtain ⟨r, rfl, ep⟩ := z
    exact wpAny_pure ep
end
end OQ

/-! ### errors: isinstance of a caught one that has fields; making an instance within a try -/
namespace OQ
open PySem L2 PySem.Spec PyProof.Rows
/-- isinstance(e, c), e the error that the suite holds at a: its class cls, its dict d -/
def rIsX (K : PySem.W.Frag) (D a : Addr) (cls : Value) (d : Option Addr) : List V → Hp → VK → Prop := fun xs H Q => ∃ (c : V) (cv : Value) (b : Bool) (dd : Addr) (fs : List (Str × V)),
  xs = [.ref a, c] ∧ cls = .ref D ∧ d = some dd ∧ H dd = some (.xd fs) ∧ ClsV c cv ∧ PySem.W.kitOne K (.ref D) cv = some b ∧ Q (.bl b) H
theorem call_isX {X : Cx} {a D : Addr} {cls : Value} {d : Option Addr} {oe : Obj} {pn : List (Addr × Obj)} (C : ExcC X.K D) (hz : Zc cls d oe) (hf : ∃ vs, oe.data = .fields vs) :
    CallR (X.suite a ((a, oe) :: pn)) (.builtin "isinstance") (rIsX X.K D a cls d) := by
  rintro pins s σ H xs us Q I r ⟨c, cv, b, dd, fs, rfl, rfl, rfl, hx, hc, e, q⟩
  cases r with
  | cons rx rr => cases rr with
    | cons rt rr =>
      cases rr
      cases rx
      have ec := hc.eq rt
      subst ec
      obtain ⟨hget, _⟩ := I.pin (a, oe) (List.mem_append_left _ (List.mem_cons_self ..))
      obtain ⟨vs, hv⟩ := hf
      obtain ⟨_, hns, _⟩ := (show ObjOk X.prog X.w H s.heap dd (.xd fs) from I.hok dd _ hx)
      obtain ⟨od, ho, _⟩ := lookIn_ns hns
      have J : PySem.W.InstAt s.heap a oe D (some od) := ⟨hget, hz.1, (by unfold PySem.W.notCls; rw [hv] <;> rfl), (by rw [hz.2]; exact ho)⟩
      have hcl : (PySem.W.clsIn X.K D).isSome = true := by
        obtain ⟨cd, h1, _⟩ := PySem.W.any_some C.hd
        rw [h1]; rfl
      exact PySem.W.kia_one (PySem.W.kitx_exc hcl C.hg C.hk C.hs C.ha C.hn C.ht C.hm) I.kIn J e (fun z => Value.noConfusion z) fun tk => ⟨.bl b, H, I.kept (t' := tk) fun _ _ z => z, rfl, q⟩
section
variable {X : Cx} {CX : CXT} {C f : Addr} {fd : FuncData} {ps : List Str} {sp : Sp} {k : Nat} {ds : List Value} {dvs : List V} {E : L2.St → XK} {x : Str} {p pos : Pos} {e : Expr} {es : List Expr} {t : TA}
/-- C(e, ..), what is raised wished for at the slots -/
def tMakeS (C : Addr) (sp : Sp) (dvs : List V) (E : L2.St → XK) (t : TA) : TE := fun σ H Q => t σ H fun vs H1 => ∀ x dx, H1 x = none → H1 dx = none → dx ≠ x →
  sp (.ref x :: (vs ++ dvs)) (upd (upd H1 dx (.own x)) x (.ins C dx [])) (fun v H2 => v = .non ∧ Q (.ref x) H2) (E σ)
theorem pe_makeS (M : Mk X.K C f) (F : FnOk X.prog X.w X.K X.mg X.base CX k f fd ps sp) (hr : Room (k + 1) X.A) (hg : Gl X x) (hm : X.mg x = some (.ref C)) (hb : Binds X.K fd ps ds) (hd : Vals dvs ds)
    (hx : ∀ σ, PassesAt CX X σ (E σ)) (ha : PA X (e :: es) t) (hdb : (x == ("__debug__" : Str)) = false := by decide)
    (he : starEach (e :: es) X.env = (false, eval e X.env) :: starEach es X.env := by rfl) (hpl : (backTo pos (starEach es X.env)).any (·.1) = false := by rfl) :
    PE X (.Call (.Name x p) (e :: es) [] pos) (tMakeS C sp dvs E t) := by
  refine ⟨fun pins s σ H Q I h => ?_⟩
  refine wpAny_Call_Name_kw (ld_glob I hg hm ?_ hdb)
  refine PySem.W.callWith_K (h₀ := X.base) I.ok.mod.kin M.kp (thn (ha.run pos pins s σ H _ I h) ?_) he hpl
  rintro us s1 ⟨vs, H1, I1, r, q⟩
  refine ⟨I1.kIn, ?_⟩
  have nx : H1 (s1.heap.objs.size + 1) = none := I1.hok.fresh (Nat.le_succ _)
  have ndx : H1 s1.heap.objs.size = none := I1.hok.fresh (Nat.le_refl _)
  have hq := q _ _ nx ndx (Nat.ne_of_lt (Nat.lt_succ_self _))
  have I2 := Inv.made (C := C) I1
  have r2 : Vals (V.ref (s1.heap.objs.size + 1) :: (vs ++ dvs)) (Value.ref (s1.heap.objs.size + 1) :: (us ++ ds)) := .cons rfl (r.append hd)
  have hl : (Value.ref (s1.heap.objs.size + 1) :: us ++ ds).length = ps.length := (r2.length.symm).trans (F.len _ _ _ _ hq)
  refine wpAny_call (make_map (f := f) I1.kIn M.makes M.init (beq_iff_eq.mp M.fn) (codeAny_mono (F.run _ X.stack _ _ _ _ _ _ (E σ) (hr.make C us []) (I2.env0.make C us []) (hb _ (_ :: us) I2.kIn hl) r2 hq) ?_))
  rintro (er | fl) s' hq'
  · exact hx σ pins _ _ er s' I2 hq'
  · cases fl with
    | ret u =>
      obtain ⟨v, H', I3, rv, ev, q3⟩ := I2.after hq'
      subst ev
      exact ⟨rv, V.ref (s1.heap.objs.size + 1), H', I3, rfl, q3⟩
    | next => exact hq'.elim
    | brk => exact hq'.elim
    | cont => exact hq'.elim
end
/-- // by a divisor of either sign, below 2 ^ 9000 -/
def CDivX (_ j : Int) : Prop := j ≠ 0 ∧ j.natAbs.log2 < 9000
theorem op_fdivX {X : Cx} : OpR X (binaryOp .FloorDiv) (rI CDivX fun i j => .int (i.fdiv j)) := opI fun i j _ _ _ _ _ hc q => floordiv_int hc.1 q (.inl (PyProof.noPylong_of_log2 hc.2))
end OQ

namespace OQ
open PySem L2
/-- one of two rules -/
theorem op_or {X : Cx} {f : Value → Value → Sem Value} {r1 r2 : R2} (h1 : OpR X f r1) (h2 : OpR X f r2) : OpR X f (fun x y H Q => r1 x y H Q ∨ r2 x y H Q) :=
  fun pins s σ H x y v u Q I rx ry h => h.elim (h1 pins s σ H x y v u Q I rx ry) (h2 pins s σ H x y v u Q I rx ry)
/-- what lets nothing out where the wish is empty -/
theorem passN {X : Cx} : Passes (L2.CX X.prog X.w) X E0 := fun pins σ H s e s' I h => by
  obtain ⟨_, _, _, _, _, _, _, _, _, _, _, _, f⟩ := h
  exact f.elim
section
variable {σ : L2.St} {H : Hp} {Q : VK} {K : PySem.W.Frag}
theorem d_makeS {C : Addr} {sp : Sp} {dvs : List V} {E : L2.St → XK} {t : TA} (h : t σ H fun vs H1 => ∀ x dx, H1 x = none → H1 dx = none → dx ≠ x →
  sp (.ref x :: (vs ++ dvs)) (upd (upd H1 dx (.own x)) x (.ins C dx [])) (fun v H2 => v = .non ∧ Q (.ref x) H2) (E σ)) : tMakeS C sp dvs E t σ H Q := h
theorem d_make {C : Addr} {sp : Sp} {dvs : List V} {E : XK} {t : TA} (h : t σ H fun vs H1 => ∀ x dx, H1 x = none → H1 dx = none → dx ≠ x →
  sp (.ref x :: (vs ++ dvs)) (upd (upd H1 dx (.own x)) x (.ins C dx [])) (fun v H2 => v = .non ∧ Q (.ref x) H2) E) : tMake C sp dvs E t σ H Q := h
end
end OQ
namespace OQ
open PySem L2
theorem d_isX {K : PySem.W.Frag} {D a : Addr} {cls : Value} {d : Option Addr} {H : Hp} {Q : VK} {c : V} {cv : Value} {b : Bool} {dd : Addr} {fs : List (Str × V)} (e1 : cls = .ref D) (e2 : d = some dd) (hx : H dd = some (.xd fs)) (hc : ClsV c cv)
    (e : PySem.W.kitOne K (.ref D) cv = some b) (h : Q (.bl b) H) : rIsX K D a cls d [.ref a, c] H Q := ⟨c, cv, b, dd, fs, rfl, e1, e2, hx, hc, e, h⟩
end OQ

/-! ### readings: chained comparisons -/
namespace RD
open PySem L2
theorem d_chain {r r' : R2} {ta tb tc : TE} {σ : L2.St} {H : Hp} {Q : VK} (h : ta σ H fun x H1 => tb σ H1 fun y H2 => r x y H2 fun z H3 => ∃ k, z = .bl k ∧ (if k = true then tc σ H3 fun u H4 => r' y u H4 Q else Q (.bl false) H3)) : tChain r r' ta tb tc σ H Q := h
variable {σ : L2.St} {H : Hp}
theorem f_tup {K : PySem.W.Frag} {a : Addr} {xs : List V} {g : TG} {tb : TS} {nx : L2.St → Hp → Prop} {rt : VK} (Pv : Nat → L2.St → Hp → Prop) (h0 : Pv 0 σ H) (hl : ∀ i σ H, i ≤ xs.length → Pv i σ H → SqT K H a xs)
    (hs : ∀ i x σ H, xs[i]? = some x → Pv i σ H → g x σ H fun σ2 H2 => tb ⟨Pv (i + 1), rt, nx, Pv (i + 1)⟩ σ2 H2) (hd : ∀ σ H, Pv xs.length σ H → nx σ H) :
    ∃ W : Nat → Nat → L2.St → Hp → Prop, (∃ m, W 0 m σ H) ∧ ∀ i m σ H, W i m σ H → ((Itt K a).stop i H ∧ nx σ H) ∨ ((Itt K a).go i H ∧ ∃ N : L2.St → Hp → Prop, (∀ σ' H', N σ' H' → ∃ m', m' < m ∧ W (i + 1) m' σ' H') ∧
      ∀ x H', (Itt K a).yld i H x H' → g x σ H' fun σ2 H2 => tb ⟨N, rt, nx, N⟩ σ2 H2) := for_tup (D := ⟨nx, rt, fun _ _ => False, fun _ _ => False⟩) Pv h0 hl hs hd
end RD

/-! ### a range as a value, and for over it -/
namespace OQ
open PySem L2 PySem.Spec PyProof.Rows
section
variable {X : Cx} {tg : Expr} {e : Expr} {te : TE}
theorem cr_range1 : CallR X (.type "range") (fun vs H Q => ∃ j : Int, vs = [V.int j] ∧ ∀ p, H p = none → Q (.ref p) (upd H p (.rng 0 j))) := by
  rintro pins s σ H vs us Q I r ⟨j, rfl, wish⟩
  cases r with
  | cons one rest =>
    cases rest
    obtain ⟨tok, rfl⟩ := one
    have free := I.hok.fresh (Nat.le_refl s.heap.objs.size)
    exact call_range_1 ⟨.ref s.heap.objs.size, _, I.laid (t' := s.toks + 1 + 1) (o := .rng 0 j) (fun _ _ z => Heap.get?_push_of_some _ z) (Nat.le_refl _) ⟨s.toks, tok, s.toks + 1, Heap.get?_push_size _ rfl⟩, rfl, wish _ free⟩
/-- for .. in e, e a range from lo to hi -/
def iRngV (te : TE) : TI := fun σ H R => te σ H fun x H1 => ∃ (a : Addr) (lo hi : Int), x = .ref a ∧ H1 a = some (.rng lo hi) ∧ (-(2 ^ 62) ≤ lo ∧ lo < 2 ^ 62 ∧ -(2 ^ 62) ≤ hi ∧ hi < 2 ^ 62) ∧ R (Itr lo (hi - lo).toNat) H1
theorem pi_rngV (he : PE X e te) : PI X tg e (iRngV te) := by
  refine ⟨fun pins s σ H R I asked => thn (he.run pins s σ H _ I asked) fun v s1 ⟨x, H1, I1, rx, a, lo, hi, ex, ea, ⟨b1, b2, b3, b4⟩, go⟩ => ?_⟩
  subst ex
  obtain rfl : v = Value.ref a := rx
  obtain ⟨t, u, w, there⟩ := I1.hok a _ ea
  have isr : IsRange s1.heap a lo hi 1 t u w := there
  have len : (((hi - lo).toNat : Nat) : Int) = Builtin.Range.rangeSize lo hi 1 := by rw [rangeSize_one]; split <;> omega
  refine wpAny_pyIter_range isr (small_one b1 b2 b3 b4) ⟨s1.heap.objs.size, [s1.heap.objs.size], _, _, H1, rfl, I1.kept (t' := s1.toks) fun _ _ z => Heap.get?_push_of_some _ z, turn_range _ lo (hi - lo).toNat, ?_, fun b hb => ?_, go⟩
  · show IsRangeIter _ _ (lo + ((0 : Nat) : Int) * 1) ((((hi - lo).toNat : Nat) : Int) - ((0 : Nat) : Int)) 1
    rw [len]
    simp only [Int.natCast_zero, Int.zero_mul, Int.add_zero, Int.sub_zero]
    exact Heap.get?_push_size _ rfl
  · obtain rfl : b = s1.heap.objs.size := by simpa using hb
    exact I1.fpOk (Nat.le_refl _) (I1.hok.fresh (Nat.le_refl _))
end
end OQ

/-! ### rules whose reading names K itself (for the blocks of comprehensions) -/
namespace OQ
open PySem L2 PySem.Spec PyProof.Rows
section
variable {X : Cx} {e : Expr} {ta : TE} {f : Str} {pos : Pos}
theorem ixL (K : PySem.W.Frag) (h : X.K = K := by rfl) : IxR X (rIxL K) := h ▸ ix_list
theorem ixT (K : PySem.W.Frag) (h : X.K = K := by rfl) : IxR X (rIxT K) := h ▸ ix_tup
theorem fldK (K : PySem.W.Frag) (he : PE X e ta) (h : X.K = K := by rfl) (hb : attributeBase e f X.env (eval e X.env) = eval e X.env := by rfl) : PE X (.Attribute e f pos) (tFld K ta f) := h ▸ pe_fld he hb
def rTupK (K : PySem.W.Frag) : List V → Hp → VK → Prop := fun xs H Q => ∃ p ys, xs = [.ref p] ∧ ((SqL K H p ys ∧ ∀ l, H l = none → Q (.ref l) (upd H l (.tup ys))) ∨ (SqT K H p ys ∧ Q (.ref p) H))
theorem tupK (K : PySem.W.Frag) (h : X.K = K := by rfl) : CallR X (.type "tuple") (rTupK K) := h ▸ call_tuple_of
theorem pi_listK (K : PySem.W.Frag) {tg : Expr} {l : Expr} {tl : TE} (hl : PE X l tl) (h : X.K = K := by rfl) : PI X tg l (iList K tl) := h ▸ pi_list hl
theorem pi_tupK (K : PySem.W.Frag) {tg : Expr} {l : Expr} {tl : TE} (hl : PE X l tl) (h : X.K = K := by rfl) : PI X tg l (iTup K tl) := h ▸ pi_tup hl
end
end OQ

/-! ### own errors as values: made, their fields read, isinstance of them -/
namespace OQ
open PySem L2 PySem.Spec PyProof.Rows
section
variable {X : Cx} {CX : CXT} {x n : Str} {C fI : Addr} {k : Nat} {fd : FuncData} {ps : List Str} {sp : Sp} {ds : List Value} {dvs : List V} {p pos : Pos} {e : Expr} {es : List Expr} {ta : TA} {te : TE} {E : XK}
/-- C(e, ..), C an own error: it stands as it was made -/
def tMkV (C : Addr) (sp : Sp) (dvs : List V) (E : XK) (ta : TA) : TE := fun σ H Q => ta σ H fun vs H1 => ∀ a, H1 a = none → sp (.ref a :: (vs ++ dvs)) (upd H1 a (exo a C none)) (fun v H2 => v = .non ∧ Q (.ref a) H2) E
/-- a new error: its place, and the state with it -/
theorem newErr {pins : List (Addr × Obj)} {st : Shared} {σ : L2.St} {H : Hp} (us : List Value) (D : Addr) (J : Inv X pins σ H st) :
    H (st.heap.objs.size + 1) = none ∧ Inv X pins σ (upd H (st.heap.objs.size + 1) (exo (st.heap.objs.size + 1) D none)) { st with heap := (st.heap.push (PySem.W.kdv_tup us)).push (PySem.HandSPX.excO D st.heap.objs.size) } := by
  have le := Nat.le_succ st.heap.objs.size
  refine ⟨J.hok.fresh le, J.laid (t' := st.toks) (fun _ _ z => Heap.get?_push_of_some _ (Heap.get?_push_of_some _ z)) le (exo_ok (t1 := st.heap.objs.size) ?_)⟩
  have z := Heap.get?_push_size (h := st.heap.push (PySem.W.kdv_tup us)) (o := PySem.HandSPX.excO D st.heap.objs.size) rfl
  have y : (st.heap.push (PySem.W.kdv_tup us)).objs.size = st.heap.objs.size + 1 := by simp [Heap.push]
  rw [y] at z
  exact z
theorem run_mkV {pins : List (Addr × Obj)} {st : Shared} {σ : L2.St} {H1 : Hp} {Q : VK} {vs : List V} {us : List Value} (T : OexC X.K C) (iC : PySem.W.findIn X.K (.ref C) "__init__" = some (some (.ref fI))) (tI : PySem.W.typeIn X.K (.ref fI) = some (.type "function"))
    (F1 : FnOk X.prog X.w X.K X.mg X.base CX k fI fd ps sp) (hr : Room (k + 1) X.A) (hb : Binds X.K fd ps ds) (hd : Vals dvs ds) (hx : Passes CX X E) (few : ps.length ≤ 100) (J : Inv X pins σ H1 st) (rv : Vals vs us)
    (wish : ∀ a, H1 a = none → sp (.ref a :: (vs ++ dvs)) (upd H1 a (exo a C none)) (fun v H2 => v = .non ∧ Q (.ref a) H2) E) : wpAny (model X.prog X.w) X.A (call (.ref C) us) (EP X pins σ Q) X.xe st := by
  obtain ⟨free, J2⟩ := newErr us C J
  have asked := wish _ free
  have all : Vals (V.ref (st.heap.objs.size + 1) :: (vs ++ dvs)) (Value.ref (st.heap.objs.size + 1) :: (us ++ ds)) := .cons rfl (rv.append hd)
  have many : (Value.ref (st.heap.objs.size + 1) :: us ++ ds).length = ps.length := (all.length.symm).trans (F1.len _ _ _ _ asked)
  have short : us.length ≤ sizeLine := by
    have q : (Value.ref (st.heap.objs.size + 1) :: us ++ ds).length ≤ 100 := many ▸ few
    simp only [List.cons_append, List.length_cons, List.length_append] at q
    exact Nat.le_trans (show us.length ≤ 100 by omega) (by decide)
  have body := F1.run _ X.stack _ _ ⟨Value.ref (st.heap.objs.size + 1) :: us, []⟩ _ _ _ E (hr.make C us []) (J2.env0.make C us []) (hb _ (_ :: us) J2.kIn many) all asked
  obtain ⟨_, _, _, _, bm, _, _, _, _, _, _, _, _, _, _, look, good⟩ := T.cls
  refine wpAny_call (PySem.HandSPX.call_own F.excBase_ValueError (fun _ => PySem.HandSPX.refsVE_contains _ bm good) (J.kIn _ _ look) (PySem.W.looks_findIn J.kIn iC) (fun v => PySem.W.bind_fn J.kIn v tI) short (codeAny_mono body ?_))
  rintro (er | fl) s2 post
  · exact hx pins σ _ _ er s2 J2 post
  · match fl, post with
    | .ret u, post =>
      obtain ⟨v, H2, J3, ru, e, q⟩ := J2.after post
      subst e
      exact ⟨ru, V.ref (st.heap.objs.size + 1), H2, J3, rfl, q⟩
theorem pe_mkV (T : OexC X.K C) (iC : PySem.W.findIn X.K (.ref C) "__init__" = some (some (.ref fI))) (tI : PySem.W.typeIn X.K (.ref fI) = some (.type "function"))
    (F1 : FnOk X.prog X.w X.K X.mg X.base CX k fI fd ps sp) (hr : Room (k + 1) X.A) (hb : Binds X.K fd ps ds) (hd : Vals dvs ds) (hx : Passes CX X E) (hsz : ps.length ≤ 100) (hg : Gl X x) (hm : X.mg x = some (.ref C)) (ha : PA X (e :: es) ta)
    (hdb : (x == ("__debug__" : Str)) = false := by decide) (he : starEach (e :: es) X.env = (false, eval e X.env) :: starEach es X.env := by rfl) (hpl : (backTo pos (starEach es X.env)).any (·.1) = false := by rfl) :
    PE X (.Call (.Name x p) (e :: es) [] pos) (tMkV C sp dvs E ta) := by
  refine ⟨fun pins s σ H Q I h => ?_⟩
  refine wpAny_Call_Name_kw (ld_glob I hg hm ?_ hdb)
  refine PySem.W.callWith_K (h₀ := X.base) I.ok.mod.kin T.kC (thn (ha.run pos pins s σ H _ I h) fun us s1 ⟨vs, H1, I1, r1, q1⟩ => ⟨I1.kIn, ?_⟩) he hpl
  exact run_mkV T iC tI F1 hr hb hd hx hsz I1 r1 q1
theorem pe_mkV0 (T : OexC X.K C) (iC : PySem.W.findIn X.K (.ref C) "__init__" = some (some (.ref fI))) (tI : PySem.W.typeIn X.K (.ref fI) = some (.type "function"))
    (F1 : FnOk X.prog X.w X.K X.mg X.base CX k fI fd ps sp) (hr : Room (k + 1) X.A) (hb : Binds X.K fd ps ds) (hd : Vals dvs ds) (hx : Passes CX X E) (hsz : ps.length ≤ 100) (hg : Gl X x) (hm : X.mg x = some (.ref C))
    (hdb : (x == ("__debug__" : Str)) = false := by decide) : PE X (.Call (.Name x p) [] [] pos) (tMkV C sp dvs E tNil) := by
  refine ⟨fun pins s σ H Q I h => ?_⟩
  refine wpAny_Call_Name_kw (ld_glob I hg hm ?_ hdb)
  exact PySem.W.callWith_K0 I.kIn T.kC (run_mkV (us := []) (vs := []) T iC tI F1 hr hb hd hx hsz I .nil h)
/-- an own error at a, with its fields -/
def ErrAt (H : Hp) (a C : Addr) (fs : List (Str × V)) : Prop := ∃ d, H a = some (exo a C (some d)) ∧ H d = some (exd d fs)
theorem errInst {pins : List (Addr × Obj)} {s : Shared} {σ : L2.St} {H : Hp} {a : Addr} {fs : List (Str × V)} (I : Inv X pins σ H s) (h : ErrAt H a C fs) :
    ∃ (oe : Obj) (od : Obj) (mA : Str → Option Value), PySem.W.InstAt s.heap a oe C (some od) ∧ (∀ f, RelO (fs.lookup f) (mA f)) ∧ ∀ n, PySem.W.lookIn n od = some (mA n) := by
  obtain ⟨d, e1, e2⟩ := h
  obtain ⟨t1, ho⟩ := exo_at I.hok e1
  obtain ⟨mA, hns, rel⟩ := exd_at I.hok e2
  obtain ⟨od, hd, hl⟩ := lookIn_ns hns
  exact ⟨_, od, mA, ⟨ho, rfl, rfl, hd⟩, rel, hl⟩
/-- e.f -/
def tVf (K : PySem.W.Frag) (n : Str) (te : TE) : TE := fun σ H Q => te σ H fun x H1 => ∃ (a C : Addr) (fs : List (Str × V)) (v : V), x = .ref a ∧ ErrAt H1 a C fs ∧ XfC K C ∧ PySem.W.findIn K (.ref C) n = some none ∧ fs.lookup n = some v ∧ Q v H1
theorem pe_vf (he : PE X e te) (hb : attributeBase e n X.env (eval e X.env) = eval e X.env := by rfl) : PE X (.Attribute e n pos) (tVf X.K n te) := by
  refine ⟨fun pins s σ H Q I h => ?_⟩
  refine attr_of hb (thn (he.run pins s σ H _ I h) fun u s1 hh => ?_)
  obtain ⟨x, H1, I1, rx, a, D, fs, v, ex, er, T, hno, l, q⟩ := hh
  subst ex
  obtain rfl : u = Value.ref a := rx
  obtain ⟨oe, od, mA, J, hr, hl⟩ := errInst I1 er
  obtain ⟨u, hu, ru⟩ := RelO.some_of (v := v) (o := mA n) (by rw [← l]; exact hr n)
  exact HandSPX.exc_get I1.kIn J T.ga T.gg T.exC (PySem.W.findObj_own T.hdC hno rfl (by rw [hl, hu])) (handed_of ru) ⟨v, H1, I1.tok _, ru, q⟩
/-- isinstance(x, c), x such an error -/
def rIsV (K : PySem.W.Frag) : List V → Hp → VK → Prop := fun xs H Q => ∃ (a D : Addr) (fs : List (Str × V)) (c : V) (cv : Value) (b : Bool), xs = [.ref a, c] ∧ ErrAt H a D fs ∧ ExcC K D ∧ ClsV c cv ∧ PySem.W.kitOne K (.ref D) cv = some b ∧ Q (.bl b) H
theorem call_isV : CallR X (.builtin "isinstance") (rIsV X.K) := by
  rintro pins s σ H xs us Q I r ⟨a, D, fs, c, cv, b, rfl, er, C, hc, e, q⟩
  cases r with
  | cons rx rr => cases rr with
    | cons rt rr =>
      cases rr
      cases rx
      have ec := hc.eq rt
      subst ec
      obtain ⟨oe, od, mA, J, _, _⟩ := errInst I er
      have hcl : (PySem.W.clsIn X.K D).isSome = true := by
        obtain ⟨cd, h1, _⟩ := PySem.W.any_some C.hd
        rw [h1]; rfl
      exact PySem.W.kia_one (PySem.W.kitx_exc hcl C.hg C.hk C.hs C.ha C.hn C.ht C.hm) I.kIn J e (fun z => Value.noConfusion z) fun tk => ⟨.bl b, H, I.kept (t' := tk) fun _ _ z => z, rfl, q⟩
end
end OQ

/-! ### own errors: what is known of their classes -/
namespace OQ
open PySem L2 PySem.Spec PyProof.Rows
structure ErC (K : PySem.W.Frag) (W fI C : Addr) : Prop where
  oex : OexC K C
  ini : PySem.W.findIn K (.ref C) "__init__" = some (some (.ref fI))
  va : PySem.W.findIn K (.ref C) "value" = some none
  xf : XfC K C
  exi : ExcC K C
  mro : ∃ cd, PySem.W.clsIn K C = some cd ∧ cd.mro = [.ref C, .ref W, .type "ValueError", .type "Exception", .type "BaseException", .type "object"]
theorem kit_er {K : PySem.W.Frag} {W f g C D : Addr} (a : ErC K W f C) (b : ErC K W g D) (n : D ≠ W) : PySem.W.kitOne K (.ref C) (.ref D) = some (decide (C = D)) := by
  by_cases h : C = D
  · subst h
    unfold PySem.W.kitOne
    rw [if_pos (by simp), decide_eq_true rfl]
  · have hb : ((Value.ref C : Value) == Value.ref D) = false := Bool.eq_false_iff.mpr fun q => h (by cases beq_iff_eq.mp q; rfl)
    unfold PySem.W.kitOne
    rw [if_neg (by rw [hb]; decide), decide_eq_false h]
    obtain ⟨cd, e1, _⟩ := b.mro
    obtain ⟨cc, e2, e3⟩ := a.mro
    have t : ((PySem.W.clsIn K D).isSome && PySem.W.typeIn K (.ref D) == some (.type "type")) = true := by rw [e1, b.oex.tyC] <;> rfl
    show (if ((PySem.W.clsIn K D).isSome && PySem.W.typeIn K (.ref D) == some (.type "type")) = true then PySem.W.mroIn K C (.ref D) else none) = some false
    rw [if_pos t]
    unfold PySem.W.mroIn
    rw [e2]
    show (if cc.mro.isEmpty = true then none else some (cc.mro.contains (.ref D))) = some false
    rw [e3, if_neg (by simp)]
    congr 1
    refine Bool.eq_false_iff.mpr fun q => ?_
    have m := List.contains_iff_mem.mp q
    simp only [List.mem_cons, List.not_mem_nil, or_false] at m
    rcases m with m | m | m | m | m | m
    · cases m; exact h rfl
    · cases m; exact n rfl
    all_goals cases m
end OQ

/-! ### C.f(..), C an own class of the text: the def itself -/
namespace OQ
open PySem L2 PySem.Spec PyProof.Rows
/-- C.f read off the class: the def at g -/
structure CDef (K : PySem.W.Frag) (C g : Addr) (n : Str) : Prop where
  rd : PySem.W.readsIn K C (.type "type") = true
  ga : PySem.W.specialIn K (.ref C) "__getattribute__" = some (some (.builtin "type.__getattribute__"))
  val : PySem.W.findCls K (.ref C) (.type "type") n = some (.val (.ref g))
  kp : PySem.W.keepIn K (.ref g) = true
section
variable {X : Cx} {CX : CXT} {n : Str} {C g : Addr} {k : Nat} {fd : FuncData} {ps : List Str} {sp : Sp} {o e : Expr} {es : List Expr} {to : TE} {t : TA} {E : XK} {pos apos : Pos} {pl : Sem Bool}
def tCDef (C : Addr) (sp : Sp) (E : XK) (to : TE) (t : TA) : TE := fun σ H Q => to σ H fun x H1 => x = .ref C ∧ t σ H1 fun vs H2 => sp vs H2 Q E
theorem pe_cdef (ho : PE X o to) (c : CDef X.K C g n) (F : FnOk X.prog X.w X.K X.mg X.base CX k g fd ps sp) (hr : Room k X.A) (hb : Binds X.K fd ps []) (hx : Passes CX X E) (ha : PA X (e :: es) t)
    (ht : eval (.Call (.Attribute o n apos) (e :: es) [] pos) X.env = (do
      let ov ← eval o X.env
      standAt apos.atName
      let (f, first) ← holding [ov] (getMethod ov n pl)
      callWith pos f first (backTo pos (starEach (e :: es) X.env)) (backToKw pos (keywordEach [] X.env))) := by rfl)
    (he : starEach (e :: es) X.env = (false, eval e X.env) :: starEach es X.env := by rfl) (hpl : (backTo pos (starEach es X.env)).any (·.1) = false := by rfl) :
    PE X (.Call (.Attribute o n apos) (e :: es) [] pos) (tCDef C sp E to t) := by
  refine ⟨fun pins s σ H Q I h => ?_⟩
  refine PySem.W.methodCall_KW (pl := pl) (thn (ho.run pins s σ H _ I h) fun u s1 ⟨x, H1, I1, rx, ex, q⟩ => ?_) ht
  subst ex
  obtain rfl : u = Value.ref C := rx
  refine PySem.W.method_cls I1.kIn c.ga (PySem.W.cls_value I1.kIn c.rd c.val rfl ?_)
  show wpAny _ _ (callWith pos (Value.ref g) [] (backTo pos (starEach (e :: es) X.env)) []) _ _ _
  refine PySem.W.callWith_K (h₀ := X.base) I1.ok.mod.kin c.kp (thn (ha.run pos pins _ σ H1 _ (I1.tok _) q) fun us s2 ⟨vs, H2, I2, rv, q2⟩ => ⟨I2.kIn, ?_⟩) he hpl
  exact run_at (A := X.A) rfl hr F hb hx I2 rv q2
end
end OQ

/-! ### own errors: of which classes above -/
namespace OQ
open PySem L2 PySem.Spec PyProof.Rows
theorem mro_has {K : PySem.W.Frag} {W f C : Addr} (a : ErC K W f C) {B : Value} (h : B ∈ [Value.ref C, .ref W, .type "ValueError", .type "Exception", .type "BaseException", .type "object"]) : PySem.W.mroIn K C B = some true := by
  obtain ⟨cc, e1, e2⟩ := a.mro
  unfold PySem.W.mroIn
  rw [e1]
  show (if cc.mro.isEmpty = true then none else some (cc.mro.contains B)) = some true
  rw [e2, if_neg (by simp), List.contains_iff_mem.mpr h]
theorem kit_eV {K : PySem.W.Frag} {W f C : Addr} (a : ErC K W f C) : PySem.W.kitOne K (.ref C) (.type "ValueError") = some true := by
  unfold PySem.W.kitOne
  rw [if_neg (by simp)]
  show (if PySem.W.kitMeta "ValueError" = true then PySem.W.mroIn K C (.type "ValueError") else none) = some true
  rw [if_pos (by decide +kernel), mro_has a (by simp)]
theorem kit_eW {K : PySem.W.Frag} {W f C : Addr} (a : ErC K W f C) (hc : PySem.W.isClsIn K W = true) (ht : PySem.W.typeIn K (.ref W) = some (.type "type")) : PySem.W.kitOne K (.ref C) (.ref W) = some true := by
  by_cases n : (Value.ref C == Value.ref W) = true
  · unfold PySem.W.kitOne
    rw [if_pos n]
  · unfold PySem.W.kitOne
    rw [if_neg n]
    have h : ((PySem.W.clsIn K W).isSome && PySem.W.typeIn K (.ref W) == some (.type "type")) = true := by
      rw [show (PySem.W.clsIn K W).isSome = true from hc, ht]; rfl
    show (if ((PySem.W.clsIn K W).isSome && PySem.W.typeIn K (.ref W) == some (.type "type")) = true then PySem.W.mroIn K C (.ref W) else none) = some true
    rw [if_pos h, mro_has a (by simp)]
end OQ

/-! ### all that is asked of an own error's class, in one look -/
namespace OQ
open PySem L2 PySem.Spec PyProof.Rows
/-- the classes above such a one -/
def upVE (C W : Addr) : List Value := [.ref C, .ref W, .type "ValueError", .type "Exception", .type "BaseException", .type "object"]
def shpB (W C : Addr) : Option Obj → Bool
  | some ⟨.type "type", _, .cls k, z⟩ => k.hasDict && (!k.hasDel && (decide (k.mro = upVE C W) && decide (z.size = 6 ∧ z[4]? = some (some (.builtin "ValueError.__new__")))))
  | _ => false
theorem six {z : Array (Option Value)} {u : Option Value} (n : z.size = 6) (e : z[4]? = some u) : ∃ a b c d f, z = #[a, b, c, d, u, f] := by
  obtain ⟨l⟩ := z
  match l, n, e with
  | [a, b, c, d, v, f], _, e => exact ⟨a, b, c, d, f, by cases e; rfl⟩
def fndB (K : PySem.W.Frag) (C : Addr) (n : Str) (v : Option Value) : Bool := decide (PySem.W.findIn K (.ref C) n = some v)
def erB (K : PySem.W.Frag) (W f C : Addr) : Bool :=
  shpB W C (K.lookup C) && (fndB K C "__setattr__" (some (.builtin "object.__setattr__")) && (decide (PySem.W.subIn K (.ref C) (.type "BaseException") = some true) && (decide (PySem.W.typeIn K (.ref C) = some (.type "type")) &&
    (PySem.W.keepIn K (.ref C) && (fndB K C "__init__" (some (.ref f)) && (fndB K C "value" none && (fndB K C "__getattribute__" (some (.builtin "BaseException.__getattribute__")) && (fndB K C "__getattr__" none &&
      (PySem.W.hasDictIn K C && fndB K C "__class__" (some (.builtin "object.__class__")))))))))))
/-- f of all of them -/
def allB {α : Type} (f : α → Bool) : List α → Bool
  | [] => true
  | x :: r => f x && allB f r
theorem allB_at {α : Type} {f : α → Bool} : ∀ {l : List α}, allB f l = true → ∀ x ∈ l, f x = true
  | [], _, _, m => nomatch m
  | y :: r, h, x, m => by
    have q : (f y && allB f r) = true := h
    rw [Bool.and_eq_true] at q
    rcases List.mem_cons.mp m with e | m
    · rw [e]; exact q.1
    · exact allB_at q.2 x m
theorem two {a b : Bool} (h : (a && b) = true) : a = true ∧ b = true := by simpa using h
theorem erB_ok {K : PySem.W.Frag} {W f C : Addr} (hn : PySem.W.specialIn K (.builtin "object.__class__") "__get__" = some (some (.builtin "getset_descriptor.__get__"))) (ht : PySem.W.takesIn K (.builtin "object.__class__") = some true)
    (h : erB K W f C = true) : ErC K W f C := by
  obtain ⟨c1, h⟩ := two h
  obtain ⟨c2, h⟩ := two h
  obtain ⟨c3, h⟩ := two h
  obtain ⟨c4, h⟩ := two h
  obtain ⟨c5, h⟩ := two h
  obtain ⟨c6, h⟩ := two h
  obtain ⟨c7, h⟩ := two h
  obtain ⟨c8, h⟩ := two h
  obtain ⟨c9, h⟩ := two h
  obtain ⟨c10, c11⟩ := two h
  have F : ∀ {n : Str} {v : Option Value}, fndB K C n v = true → PySem.W.findIn K (.ref C) n = some v := fun q => of_decide_eq_true q
  have sub := of_decide_eq_true c3
  cases e : K.lookup C with
  | none => rw [e] at c1; cases c1
  | some o =>
    rw [e] at c1
    unfold shpB at c1
    split at c1
    · rename_i dd k z eo
      have eo' := Option.some.inj eo
      subst eo'
      obtain ⟨d1, c1⟩ := two c1
      obtain ⟨d2, c1⟩ := two c1
      obtain ⟨d3, d4⟩ := two c1
      obtain ⟨s1, s2⟩ := of_decide_eq_true d4
      obtain ⟨k0, k1, k2, k3, k5, rfl⟩ := six s1 s2
      have mr := of_decide_eq_true d3
      obtain ⟨nm, bs, mro, ns, qn, hdct, sn, sub2, ab, col, hdel⟩ := k
      simp only [Bool.not_eq_true'] at d1 d2 mr
      subst d1 d2 mr
      have cl : PySem.W.clsIn K C = some { name := nm, bases := bs, mro := upVE C W, ns := ns, qualname := qn, hasDict := true, slotNames := sn, subclasses := sub2, abstract := ab, collection := col, hasDel := false } := by
        unfold PySem.W.clsIn
        rw [e]
      have up : PySem.W.mroIn K C (.type "object") = some true := by
        unfold PySem.W.mroIn
        rw [cl]
        show (if (upVE C W).isEmpty = true then none else some ((upVE C W).contains (.type "object"))) = some true
        rw [if_neg (by simp [upVE]), List.contains_iff_mem.mpr (by simp [upVE])]
      exact ⟨⟨⟨nm, qn, ns, bs, [.ref W, .type "ValueError", .type "Exception", .type "BaseException", .type "object"], sn, sub2, ab, col, dd, k0, k1, k2, k3, k5, e, by rfl⟩, F c2, sub, of_decide_eq_true c4, c5⟩, F c6, F c7,
        ⟨F c8, F c9, sub, c10⟩, ⟨F c8, F c9, sub, c10, F c11, hn, ht, up⟩, ⟨_, cl, rfl⟩⟩
    · cases c1
end OQ
namespace OQ
open PySem L2 PySem.Spec PyProof.Rows
theorem ErC.cls {K : PySem.W.Frag} {W f C : Addr} (a : ErC K W f C) : PySem.W.isClsIn K C = true := by
  obtain ⟨cc, e, _⟩ := a.mro
  show (PySem.W.clsIn K C).isSome = true
  rw [e]; rfl
/-- what «except D» says of an error of C -/
theorem exm_is {K : PySem.W.Frag} {C D : Addr} {b : Bool} (h1 : PySem.W.subIn K (.ref D) (.type "BaseException") = some true) (h2 : PySem.W.isClsIn K D = true) (h3 : PySem.W.typeIn K (.ref D) = some (.type "type")) (h : PySem.W.mroIn K C (.ref D) = some b) :
    PySem.W.exmOne K (.ref C) (.ref D) = some b := by
  unfold PySem.W.exmOne
  rw [h1, if_pos (by rfl)]
  have q : ((PySem.W.clsIn K D).isSome && PySem.W.typeIn K (.ref D) == some (.type "type")) = true := by
    rw [show (PySem.W.clsIn K D).isSome = true from h2, h3]; rfl
  unfold PySem.W.kitCls
  exact (if_pos q).trans h
theorem mro_er {K : PySem.W.Frag} {W f C : Addr} (a : ErC K W f C) {D : Addr} (n : D ≠ W) : PySem.W.mroIn K C (.ref D) = some (decide (C = D)) := by
  by_cases h : C = D
  · subst h; rw [mro_has a (by simp), decide_eq_true rfl]
  · obtain ⟨cc, e1, e2⟩ := a.mro
    unfold PySem.W.mroIn
    rw [e1, decide_eq_false h]
    show (if cc.mro.isEmpty = true then none else some (cc.mro.contains (.ref D))) = some false
    rw [e2, if_neg (by simp)]
    refine congrArg some (Bool.eq_false_iff.mpr fun q => ?_)
    have m := List.contains_iff_mem.mp q
    simp only [List.mem_cons, Value.ref.injEq, reduceCtorEq, List.not_mem_nil, or_false] at m
    exact m.elim (fun z => h z.symm) n
theorem exm_er {K : PySem.W.Frag} {W f g C D : Addr} (a : ErC K W f C) (b : ErC K W g D) (n : D ≠ W) : PySem.W.exmOne K (.ref C) (.ref D) = some (decide (C = D)) := exm_is b.oex.exC b.cls b.oex.tyC (mro_er a n)
theorem exm_eW {K : PySem.W.Frag} {W f C : Addr} (a : ErC K W f C) (h1 : PySem.W.subIn K (.ref W) (.type "BaseException") = some true) (h2 : PySem.W.isClsIn K W = true) (h3 : PySem.W.typeIn K (.ref W) = some (.type "type")) :
    PySem.W.exmOne K (.ref C) (.ref W) = some true := exm_is h1 h2 h3 (mro_has a (by simp))
end OQ

/-! ### the head by one run: facts by names, and one more look -/
namespace OQ
open PySem L2 PySem.Spec PyProof.Rows
/-- what of the heap is looked at: what the module's names reach, and the host's own names -/
def frB (n : Nat) (g : Addr → Option Obj) : PySem.W.Frag := He.frG g (cStatics :: He.asD g n)
def hookB (n : Nat) (fa : List He.Fa) (fn : List He.DefD) (ex : PySem.W.Frag → Bool) : PySem.W.Hook where
  α := He.AlD × Bool
  obs := fun s => (He.obsD fa fn (frB n s.heap.get?), ex (frB n s.heap.get?))
  val := fun _ => (He.valD fn, true)
  says := fun _ h => ∃ K : PySem.W.Frag, K.In h ∧ He.SaysD fa fn K ∧ ex K = true
  of := fun _ _ e => ⟨_, He.frG_in, congrArg Prod.fst e, congrArg Prod.snd e⟩
  keeps := fun _ _ _ ⟨K, hK, c, x⟩ k => ⟨K, PySem.W.Frag.In.keeps hK k, c, x⟩
def obB (n : Nat) (fa : List He.Fa) (fn : List He.DefD) (ex : PySem.W.Frag → Bool) (s : PySem.W.SharedT) : He.AlD × Bool :=
  (He.obsD fa fn (frB n (HandSHeadRun.getT s)), ex (frB n (HandSHeadRun.getT s)))
theorem obB_eq (n : Nat) (fa : List He.Fa) (fn : List He.DefD) (ex : PySem.W.Frag → Bool) (s : PySem.W.SharedT) : obB n fa fn ex s = (hookB n fa fn ex).obs s.abs := by
  have e : HandSHeadRun.getT s = s.abs.heap.get? := funext (HandSHeadRun.getT_eq s)
  unfold obB
  rw [e]
  rfl
theorem fun_of {K : PySem.W.Frag} {x q : Str} {st : Stmt} {f : Addr} {fd : FuncData} (F : FunD K x q (defArgs st) (defBody st) (defScope st) [] [] f fd) : Fun K x q st f fd := by
  obtain ⟨oc, od, dV, kV, doc, pm, an, cd, ct, sl, e, look, code, df, _⟩ := F.ex
  rcases df with ⟨_, rfl⟩ | ⟨no, _⟩
  · exact ⟨⟨oc, od, kV, doc, pm, an, cd, ct, sl, e, look, code⟩, F.kp⟩
  · exact absurd rfl no
/-- v as an option's option -/
def isB (a : Option (Option Value)) (v : Option Value) : Bool := decide (a = some v)
theorem isB_ok {a : Option (Option Value)} {v : Option Value} (h : isB a v = true) : a = some v := of_decide_eq_true h
end OQ

open RD in
local macro_rules | `(tactic| walk_at "rd1") => `(tactic| with_reducible first
  | refine d_seq ?_ | refine d_asg ?_ | refine d_op ?_ | refine d_c ?_ | refine d_gname ?_ | refine d_ifS ?_ | refine d_test ?_ | refine d_bl ?_ | refine d_ret ?_ | refine d_next ?_ | refine d_drop ?_
  | refine d_and ?_ | refine d_or ?_ | refine d_not ?_ | refine d_andV ?_ | refine d_orV ?_ | refine d_notV ?_ | refine d_if ?_ | refine d_tB ?_
  | refine d_rI0 ?_ | refine d_rU ?_ | refine d_eqI ?_ | refine d_neI ?_ | refine d_eqS ?_ | refine d_neS ?_ | refine d_eqB ?_ | refine d_isN ?_ | refine d_notN ?_ | refine d_intB ?_ | refine d_un ?_ | refine d_cb ?_ | refine d_cons ?_ | refine d_nil ?_ | refine d_lst ?_ | refine d_tup ?_ | refine d_call ?_
  | refine d_iList ?_ | refine d_rng1 ?_ | refine d_lc ?_ | refine d_yes ?_ | refine d_iteT ?_ | refine d_iteF ?_ | refine d_sl ?_ | refine d_noPart ?_ | refine d_part ?_ | refine d_exI ?_ | refine d_fld ?_ | refine d_iteNF ?_ | refine d_iteNT ?_ | refine d_gcd ?_ | refine d_sfld ?_ | refine d_for ?_ | refine OQ.d_makeS ?_ | refine OQ.d_make ?_ | refine OQ.d_methS ?_ | refine OQ.d_meth ?_ | refine d_gsub ?_ | refine d_par ?_ | refine d_int ?_ | refine d_abs ?_)
local macro_rules | `(tactic| walk_at "rdH") => `(tactic| first | assumption | exact L2.upd_same | (simp only [L2.upd_same, L2.upd_ne, ne_eq, not_false_eq_true, *]; done))
local macro_rules | `(tactic| walk_at "rdC") => `(tactic| first | assumption | (refine Or.inr ⟨?_, ?_⟩ <;> first | decide | omega) | (refine Or.inl ⟨?_, ?_⟩ <;> first | decide | omega) | (show (0 : Int) < _; first | assumption | decide | omega) | exact ⟨by decide, by decide +kernel⟩ | exact ⟨by decide, by decide, by decide +kernel⟩ | exact ⟨by assumption, by assumption⟩)
local macro_rules | `(tactic| walk_at "rd2") => `(tactic| first
  | refine RD.d_var rfl ?_
  | ((with_reducible (refine' RD.d_ixL ?hs ?e ?k)); (case hs => exact L2.SqL.of (by walk_at "rdH")); (case e => rfl))
  | ((with_reducible (refine' RD.d_ixT ?hs ?e ?k)); (case hs => exact L2.SqT.of (by walk_at "rdH")); (case e => rfl))
  | ((with_reducible (refine' RD.d_lenL ?hs ?k)); (case hs => exact L2.SqL.of (by walk_at "rdH")))
  | ((with_reducible (refine' RD.d_wipe ?e ?k)); (case e => rfl))
  | ((with_reducible (refine' RD.d_refL ?hs ?k)); (case hs => exact L2.SqL.of (by walk_at "rdH")))
  | ((with_reducible (refine' RD.d_lenT ?hs ?k)); (case hs => exact L2.SqT.of (by walk_at "rdH")))
  | ((with_reducible (refine' RD.d_lenS ?hs ?k)); (case hs => first | assumption | omega))
  | ((with_reducible (refine' RD.d_rI ?c ?k)); (case c => walk_at "rdC"))
  | ((with_reducible (refine' RD.d_setL ?hs ?e ?k)); (case hs => walk_at "rdH"); (case e => rfl)))
local macro_rules | `(tactic| walk_at "rd") => `(tactic| repeat (first | walk_at "rd1" | walk_at "rd2"))

/-! ### words, watches, links, floods -/
namespace WW
abbrev Wd := List Nat
def piece (W : Wd) (i j : Nat) : Wd := (W.drop i).take (j - i)
/-- the watch w stands at spot l of W -/
def Hit (W : Wd) (l : Nat) (w : Wd) : Prop := piece W l (l + w.length) = w
def Link (ws : List Wd) (W : Wd) (i j : Nat) : Prop := ∃ w ∈ ws, (Hit W i w ∧ j = i + w.length) ∨ (Hit W j w ∧ i = j + w.length)
instance {W : Wd} {l : Nat} {w : Wd} : Decidable (Hit W l w) := inferInstanceAs (Decidable (_ = _))
theorem Link.symm {ws : List Wd} {W : Wd} {i j : Nat} (h : Link ws W i j) : Link ws W j i := by
  obtain ⟨w, m, h⟩ := h
  exact ⟨w, m, h.symm⟩
theorem piece_length (W : Wd) (i j : Nat) : (piece W i j).length = min (j - i) (W.length - i) := by simp [piece]
theorem Hit.bound {W : Wd} {l : Nat} {w : Wd} (h : Hit W l w) (n : w ≠ []) : l + w.length ≤ W.length := by
  have e := congrArg List.length h
  rw [piece_length] at e
  have : 0 < w.length := List.length_pos_iff.mpr n
  omega
theorem Link.le {ws : List Wd} {W : Wd} {i j : Nat} (hw : ∀ w ∈ ws, w ≠ []) (h : Link ws W i j) : i ≤ W.length ∧ j ≤ W.length ∧ i ≠ j := by
  obtain ⟨w, m, ⟨h, e⟩ | ⟨h, e⟩⟩ := h
  · have := h.bound (hw w m)
    have : 0 < w.length := List.length_pos_iff.mpr (hw w m)
    omega
  · have := h.bound (hw w m)
    have : 0 < w.length := List.length_pos_iff.mpr (hw w m)
    omega
theorem Link.mono {ws vs : List Wd} {W : Wd} {i j : Nat} (s : ∀ w ∈ ws, w ∈ vs) (h : Link ws W i j) : Link vs W i j := by
  obtain ⟨w, m, h⟩ := h
  exact ⟨w, s w m, h⟩
/-- r steps lead from g to v -/
def Wk (E : Nat → Nat → Prop) (g : Nat) : Nat → Nat → Prop
  | 0, v => v = g
  | r + 1, v => ∃ u, Wk E g r u ∧ E u v
/-- r steps and no fewer -/
def Ds (E : Nat → Nat → Prop) (g r v : Nat) : Prop := Wk E g r v ∧ ∀ s, s < r → ¬ Wk E g s v
def Rc (E : Nat → Nat → Prop) (g v : Nat) : Prop := ∃ r, Wk E g r v
theorem Rc.ds {E : Nat → Nat → Prop} {g v : Nat} (h : Rc E g v) : ∃ r, Ds E g r v := by
  obtain ⟨r, h⟩ := h
  induction r using Nat.strongRecOn with
  | ind r ih =>
    by_cases c : ∃ s, s < r ∧ Wk E g s v
    · obtain ⟨s, hs, k⟩ := c
      exact ih s hs k
    · exact ⟨r, h, fun s hs k => c ⟨s, hs, k⟩⟩
theorem Ds.uniq {E : Nat → Nat → Prop} {g r s v : Nat} (h : Ds E g r v) (k : Ds E g s v) : r = s := by
  rcases Nat.lt_trichotomy r s with c | c | c
  · exact (k.2 r c h.1).elim
  · exact c
  · exact (h.2 s c k.1).elim
/-- a step further than r leads to r + 1, or to what is nearer -/
theorem Ds.step {E : Nat → Nat → Prop} {g r u v : Nat} (h : Ds E g r u) (e : E u v) : Ds E g (r + 1) v ∨ ∃ s, s ≤ r ∧ Ds E g s v := by
  obtain ⟨s, k⟩ := Rc.ds ⟨r + 1, u, h.1, e⟩
  by_cases c : s ≤ r
  · exact .inr ⟨s, c, k⟩
  · by_cases c2 : s = r + 1
    · subst c2; exact .inl k
    · exact (k.2 (r + 1) (by omega) ⟨u, h.1, e⟩).elim
theorem Ds.back {E : Nat → Nat → Prop} {g r v : Nat} (h : Ds E g (r + 1) v) : ∃ u, Ds E g r u ∧ E u v := by
  obtain ⟨⟨u, k, e⟩, n⟩ := h
  exact ⟨u, ⟨k, fun s hs z => n (s + 1) (by omega) ⟨u, z, e⟩⟩, e⟩
theorem Ds.down {E : Nat → Nat → Prop} {g : Nat} : ∀ {r v : Nat}, Ds E g r v → ∀ s, s ≤ r → ∃ u, Ds E g s u
  | r, v, h, s, hs => by
    by_cases c : s = r
    · subst c; exact ⟨v, h⟩
    · cases r with
      | zero => omega
      | succ r =>
        obtain ⟨u, k, _⟩ := h.back
        exact k.down s (by omega)
theorem Wk.trans {E : Nat → Nat → Prop} {g u : Nat} {r : Nat} (h : Wk E g r u) : ∀ {s v : Nat}, Wk E u s v → Wk E g (r + s) v
  | 0, v, k => by cases k; exact h
  | s + 1, v, ⟨x, k, e⟩ => ⟨x, h.trans k, e⟩
theorem Rc.trans {E : Nat → Nat → Prop} {g u v : Nat} (h : Rc E g u) (k : Rc E u v) : Rc E g v := by
  obtain ⟨r, h⟩ := h
  obtain ⟨s, k⟩ := k
  exact ⟨r + s, h.trans k⟩
theorem Rc.one {E : Nat → Nat → Prop} {u v : Nat} (e : E u v) : Rc E u v := ⟨1, u, rfl, e⟩
theorem Rc.refl {E : Nat → Nat → Prop} {u : Nat} : Rc E u u := ⟨0, rfl⟩
theorem Rc.symm {E : Nat → Nat → Prop} (sy : ∀ u v, E u v → E v u) {u v : Nat} (h : Rc E u v) : Rc E v u := by
  obtain ⟨r, h⟩ := h
  induction r generalizing v with
  | zero => cases h; exact .refl
  | succ r ih =>
    obtain ⟨x, k, e⟩ := h
    exact (Rc.one (sy _ _ e)).trans (ih k)
theorem Rc.mono {E F : Nat → Nat → Prop} (m : ∀ u v, E u v → F u v) {u v : Nat} (h : Rc E u v) : Rc F u v := by
  obtain ⟨r, h⟩ := h
  induction r generalizing v with
  | zero => cases h; exact .refl
  | succ r ih =>
    obtain ⟨x, k, e⟩ := h
    exact (ih k).trans (.one (m _ _ e))
/-- the book of ws tells W -/
def Told (ws : List Wd) (W : Wd) : Prop := Rc (Link ws W) 0 W.length
end WW
namespace WW
/-! the marks: spots with one mark are led to one another -/
structure Cls (m : Nat → Int) (n : Nat) (F : Nat → Nat → Prop) : Prop where
  snd : ∀ i j, i ≤ n → j ≤ n → m i = m j → Rc F i j
  cmp : ∀ i j, F i j → m i = m j
def addE (F : Nat → Nat → Prop) (a b : Nat) : Nat → Nat → Prop := fun u v => F u v ∨ (u = a ∧ v = b) ∨ (v = a ∧ u = b)
theorem Cls.same {m : Nat → Int} {n a b : Nat} {F : Nat → Nat → Prop} (h : Cls m n F) (e : m a = m b) : Cls m n (addE F a b) :=
  ⟨fun i j hi hj z => (h.snd i j hi hj z).mono fun _ _ => .inl, fun i j z => by
    rcases z with z | ⟨rfl, rfl⟩ | ⟨rfl, rfl⟩
    · exact h.cmp _ _ z
    · exact e
    · exact e.symm⟩
def relab (m : Nat → Int) (a b : Nat) : Nat → Int := fun i => if m i = m b then m a else m i
theorem Cls.join {m : Nat → Int} {n a b : Nat} {F : Nat → Nat → Prop} (h : Cls m n F) (ha : a ≤ n) (hb : b ≤ n) (e : m a ≠ m b) : Cls (relab m a b) n (addE F a b) := by
  have up : ∀ u v, Rc F u v → Rc (addE F a b) u v := fun u v k => k.mono fun _ _ => .inl
  have ab : Rc (addE F a b) a b := .one (.inr (.inl ⟨rfl, rfl⟩))
  have ba : Rc (addE F a b) b a := .one (.inr (.inr ⟨rfl, rfl⟩))
  refine ⟨fun i j hi hj z => ?_, fun i j z => ?_⟩
  · unfold relab at z
    split at z <;> split at z
    · rename_i c d
      exact up _ _ (h.snd i j hi hj (c.trans d.symm))
    · rename_i c d
      exact ((up _ _ (h.snd i b hi hb c)).trans ba).trans (up _ _ (h.snd a j ha hj z))
    · rename_i c d
      exact ((up _ _ (h.snd i a hi ha z)).trans ab).trans (up _ _ (h.snd b j hb hj d.symm))
    · exact up _ _ (h.snd i j hi hj z)
  · unfold relab
    rcases z with z | ⟨rfl, rfl⟩ | ⟨rfl, rfl⟩
    · rw [h.cmp _ _ z]
    · rw [if_neg e, if_pos rfl]
    · rw [if_neg e, if_pos rfl]
theorem Cls.told {m : Nat → Int} {n : Nat} {F : Nat → Nat → Prop} (h : Cls m n F) {i j : Nat} (hi : i ≤ n) (hj : j ≤ n) : m i = m j ↔ Rc F i j := by
  refine ⟨h.snd i j hi hj, fun k => ?_⟩
  obtain ⟨r, k⟩ := k
  clear hi hj
  induction r generalizing j with
  | zero => cases k; rfl
  | succ r ih =>
    obtain ⟨x, k, e⟩ := k
    exact (ih k).trans (h.cmp _ _ e)
/-! the links, as they are found -/
/-- those found ahead of the watch kk at spot low -/
def LkF (ws : List Wd) (W : Wd) (low kk : Nat) (i j : Nat) : Prop := ∃ l k w, ws[k]? = some w ∧ Hit W l w ∧ (l < low ∨ (l = low ∧ k < kk)) ∧ ((i = l ∧ j = l + w.length) ∨ (j = l ∧ i = l + w.length))
theorem LkF.zero {ws : List Wd} {W : Wd} {i j : Nat} : ¬ LkF ws W 0 0 i j := by
  rintro ⟨l, k, w, _, _, c, _⟩
  omega
theorem LkF.next {ws : List Wd} {W : Wd} {low i j : Nat} : LkF ws W low ws.length i j ↔ LkF ws W (low + 1) 0 i j := by
  refine ⟨fun ⟨l, k, w, h1, h2, c, h3⟩ => ⟨l, k, w, h1, h2, by omega, h3⟩, fun ⟨l, k, w, h1, h2, c, h3⟩ => ⟨l, k, w, h1, h2, ?_, h3⟩⟩
  have := (List.getElem?_eq_some_iff.mp h1).1
  omega
theorem LkF.all {ws : List Wd} {W : Wd} {i j : Nat} (n : ∀ w ∈ ws, w ≠ []) : LkF ws W W.length 0 i j ↔ Link ws W i j := by
  constructor
  · rintro ⟨l, k, w, h1, h2, c, h3⟩
    refine ⟨w, List.mem_of_getElem? h1, ?_⟩
    rcases h3 with ⟨rfl, e⟩ | ⟨rfl, e⟩
    · exact .inl ⟨h2, e⟩
    · exact .inr ⟨h2, e⟩
  · rintro ⟨w, m, h⟩
    obtain ⟨k, hk⟩ := List.getElem?_of_mem m
    have l0 : 0 < w.length := List.length_pos_iff.mpr (n w m)
    rcases h with ⟨h, e⟩ | ⟨h, e⟩
    · exact ⟨i, k, w, hk, h, by have := h.bound (n w m); omega, .inl ⟨rfl, e⟩⟩
    · exact ⟨j, k, w, hk, h, by have := h.bound (n w m); omega, .inr ⟨rfl, e⟩⟩
theorem LkF.miss {ws : List Wd} {W : Wd} {low kk : Nat} {w : Wd} (hk : ws[kk]? = some w) (h : ¬ Hit W low w) (i j : Nat) : LkF ws W low (kk + 1) i j ↔ LkF ws W low kk i j := by
  refine ⟨fun ⟨l, k, v, h1, h2, c, h3⟩ => ⟨l, k, v, h1, h2, ?_, h3⟩, fun ⟨l, k, v, h1, h2, c, h3⟩ => ⟨l, k, v, h1, h2, by omega, h3⟩⟩
  rcases c with c | ⟨rfl, c⟩
  · exact .inl c
  · by_cases e : k = kk
    · subst e
      rw [hk] at h1
      cases h1
      exact (h h2).elim
    · exact .inr ⟨rfl, by omega⟩
theorem LkF.hit {ws : List Wd} {W : Wd} {low kk : Nat} {w : Wd} (hk : ws[kk]? = some w) (h : Hit W low w) (i j : Nat) : LkF ws W low (kk + 1) i j ↔ addE (LkF ws W low kk) low (low + w.length) i j := by
  constructor
  · rintro ⟨l, k, v, h1, h2, c, h3⟩
    by_cases e : l = low ∧ k = kk
    · obtain ⟨rfl, rfl⟩ := e
      rw [hk] at h1
      cases h1
      rcases h3 with ⟨rfl, rfl⟩ | ⟨rfl, rfl⟩
      · exact .inr (.inl ⟨rfl, rfl⟩)
      · exact .inr (.inr ⟨rfl, rfl⟩)
    · exact .inl ⟨l, k, v, h1, h2, by omega, h3⟩
  · rintro (⟨l, k, v, h1, h2, c, h3⟩ | h3)
    · exact ⟨l, k, v, h1, h2, by omega, h3⟩
    · refine ⟨low, kk, w, hk, h, by omega, ?_⟩
      rcases h3 with ⟨rfl, rfl⟩ | ⟨rfl, rfl⟩
      · exact .inl ⟨rfl, rfl⟩
      · exact .inr ⟨rfl, rfl⟩
theorem LkF.new {ws : List Wd} {W : Wd} {low kk : Nat} {w : Wd} (nd : ws.Nodup) (n : ∀ w ∈ ws, w ≠ []) (hk : ws[kk]? = some w) (h : Hit W low w) : ¬ LkF ws W low kk low (low + w.length) ∧ ¬ LkF ws W low kk (low + w.length) low := by
  have l0 : 0 < w.length := List.length_pos_iff.mpr (n w (List.mem_of_getElem? hk))
  have key : ∀ l k v, ws[k]? = some v → Hit W l v → (l < low ∨ (l = low ∧ k < kk)) → l = low → v.length = w.length → False := by
    rintro l k v h1 h2 c rfl e
    have e2 : v = w := by
      unfold Hit at h2 h
      rw [← h2, ← h, e]
    subst e2
    have lt : k < kk := by omega
    have := (List.getElem?_inj (List.getElem?_eq_some_iff.mp h1).1 nd).mp (h1.trans hk.symm)
    omega
  refine ⟨fun ⟨l, k, v, h1, h2, c, h3⟩ => ?_, fun ⟨l, k, v, h1, h2, c, h3⟩ => ?_⟩ <;>
  · have l1 : 0 < v.length := List.length_pos_iff.mpr (n v (List.mem_of_getElem? h1))
    exact key l k v h1 h2 c (by omega) (by omega)
/-- rows of links -/
structure LkI (rows : Nat → List Nat) (F : Nat → Nat → Prop) : Prop where
  mem : ∀ i j, j ∈ rows i ↔ F i j
  nd : ∀ i, (rows i).Nodup
def push (rows : Nat → List Nat) (a b : Nat) : Nat → List Nat := fun i => if i = a then rows i ++ [b] else rows i
theorem LkI.add {rows : Nat → List Nat} {F : Nat → Nat → Prop} {a b : Nat} (h : LkI rows F) (ne : a ≠ b) (n1 : ¬ F a b) (n2 : ¬ F b a) : LkI (push (push rows a b) b a) (addE F a b) := by
  have e : ∀ i, push (push rows a b) b a i = if i = a then rows i ++ [b] else if i = b then rows i ++ [a] else rows i := by
    intro i
    unfold push
    by_cases c : i = a
    · subst c; rw [if_neg ne, if_pos rfl, if_pos rfl]
    · simp only [if_neg c]
  refine ⟨fun i j => ?_, fun i => ?_⟩
  · rw [e]
    split
    · rename_i c
      subst c
      rw [List.mem_append, h.mem, List.mem_singleton]
      unfold addE
      constructor
      · rintro (z | z)
        · exact .inl z
        · exact .inr (.inl ⟨rfl, z⟩)
      · rintro (z | ⟨_, z⟩ | ⟨_, z⟩)
        · exact .inl z
        · exact .inr z
        · exact (ne z).elim
    · rename_i c
      split
      · rename_i d
        subst d
        rw [List.mem_append, h.mem, List.mem_singleton]
        unfold addE
        constructor
        · rintro (z | z)
          · exact .inl z
          · exact .inr (.inr ⟨z, rfl⟩)
        · rintro (z | ⟨z, _⟩ | ⟨z, _⟩)
          · exact .inl z
          · exact (c z).elim
          · exact .inr z
      · rename_i d
        rw [h.mem]
        unfold addE
        constructor
        · exact .inl
        · rintro (z | ⟨z, _⟩ | ⟨_, z⟩)
          · exact z
          · exact (c z).elim
          · exact (d z).elim
  · rw [e]
    have app : ∀ (l : List Nat) (x : Nat), l.Nodup → x ∉ l → (l ++ [x]).Nodup := by
      intro l x nl nx
      rw [List.nodup_append]
      refine ⟨nl, by simp, fun y hy z hz q => ?_⟩
      rw [List.mem_singleton] at hz
      subst hz; subst q
      exact nx hy
    split
    · rename_i c
      subst c
      exact app _ _ (h.nd _) fun z => n1 ((h.mem _ _).mp z)
    · split
      · rename_i c d
        subst d
        exact app _ _ (h.nd _) fun z => n2 ((h.mem _ _).mp z)
      · exact h.nd _
theorem LkI.iff {rows : Nat → List Nat} {F G : Nat → Nat → Prop} (h : LkI rows F) (e : ∀ i j, G i j ↔ F i j) : LkI rows G := ⟨fun i j => (h.mem i j).trans (e i j).symm, h.nd⟩
theorem LkI.zero {ws : List Wd} {W : Wd} : LkI (fun _ => []) (LkF ws W 0 0) := ⟨fun i j => ⟨fun z => (nomatch z), fun z => (LkF.zero z).elim⟩, fun _ => List.nodup_nil⟩
end WW
namespace WW
theorem nodup_len : ∀ (n : Nat) (l : List Nat), l.Nodup → (∀ x ∈ l, x < n) → l.length ≤ n
  | 0, l, _, h => by
    cases l with
    | nil => exact Nat.le_refl _
    | cons a r => exact absurd (h a (List.mem_cons_self ..)) (Nat.not_lt_zero _)
  | n + 1, l, nd, h => by
    by_cases m : n ∈ l
    · have e := List.length_erase_of_mem m
      have ih := nodup_len n (l.erase n) (nd.erase n) (fun x hx => by
        have := h x (List.mem_of_mem_erase hx)
        have : x ≠ n := fun z => by subst z; exact (nd.not_mem_erase hx)
        omega)
      omega
    · exact Nat.le_succ_of_le (nodup_len n l nd fun x hx => by
        have := h x hx
        have : x ≠ n := fun z => m (z ▸ hx)
        omega)
theorem LkF.le {ws : List Wd} {W : Wd} {low kk i j : Nat} (n : ∀ w ∈ ws, w ≠ []) (h : LkF ws W low kk i j) : i ≤ W.length ∧ j ≤ W.length := by
  obtain ⟨l, k, w, h1, h2, c, h3⟩ := h
  have := h2.bound (n w (List.mem_of_getElem? h1))
  omega
theorem LkI.len {rows : Nat → List Nat} {F : Nat → Nat → Prop} {n : Nat} (h : LkI rows F) (b : ∀ i j, F i j → j ≤ n) (i : Nat) : (rows i).length ≤ n + 1 :=
  nodup_len _ _ (h.nd i) fun x m => Nat.lt_succ_of_le (b _ _ ((h.mem i x).mp m))
theorem addE.le {F : Nat → Nat → Prop} {a b n : Nat} (h : ∀ i j, F i j → j ≤ n) (ha : a ≤ n) (hb : b ≤ n) (i j : Nat) (k : addE F a b i j) : j ≤ n := by
  rcases k with k | ⟨_, rfl⟩ | ⟨rfl, _⟩
  · exact h _ _ k
  · exact hb
  · exact ha
/-- ints sorted, as numbers -/
theorem sorted_nats {r : List Nat} {ns : List Int} (p : ns.Perm (r.map fun (j : Nat) => (j : Int))) (s : ns.Pairwise (· ≤ ·)) (nd : r.Nodup) : ∃ q : List Nat, ns = q.map (fun (j : Nat) => (j : Int)) ∧ (∀ x, x ∈ q ↔ x ∈ r) ∧ q.Pairwise (· < ·) := by
  refine ⟨ns.map Int.toNat, ?_, fun x => ?_, ?_⟩
  · rw [List.map_map]
    have : ∀ z ∈ ns, ((fun (j : Nat) => (j : Int)) ∘ Int.toNat) z = z := fun z m => by
      obtain ⟨j, _, rfl⟩ := List.mem_map.mp (p.mem_iff.mp m)
      simp
    rw [List.map_congr_left this, List.map_id']
  · rw [List.mem_map]
    constructor
    · rintro ⟨z, m, rfl⟩
      obtain ⟨j, mj, rfl⟩ := List.mem_map.mp (p.mem_iff.mp m)
      simpa using mj
    · intro m
      exact ⟨(x : Int), p.mem_iff.mpr (List.mem_map.mpr ⟨x, m, rfl⟩), by simp⟩
  · have nd' : ns.Nodup := p.nodup_iff.mpr (List.Pairwise.map _ (fun a b (h : a ≠ b) => (fun z => h (by omega) : (a : Int) ≠ (b : Int))) nd)
    rw [List.pairwise_map]
    have both := s.and nd'
    refine both.imp_of_mem ?_
    rintro a b ma mb ⟨h1, h2⟩
    obtain ⟨x, _, rfl⟩ := List.mem_map.mp (p.mem_iff.mp ma)
    obtain ⟨y, _, rfl⟩ := List.mem_map.mp (p.mem_iff.mp mb)
    simp at *
    omega
end WW

/-! ### texts as lists of letters -/
namespace WW
open PySem L2
/-- the text of these letters -/
def S (l : Wd) : Str := ⟨l.toArray⟩
theorem S_len (l : Wd) : (S l).length = l.length := by show l.toArray.size = _; simp
theorem S_cps (l : Wd) : (S l).cps.toList = l := rfl
theorem S_of (z : Str) : z = S z.cps.toList := by cases z; rfl
theorem S_inj {l m : Wd} : S l = S m ↔ l = m := by
  constructor
  · intro h
    have := congrArg (fun z : Str => z.cps.toList) h
    exact this
  · exact congrArg S
theorem S_app (l m : Wd) : S l ++ S m = S (l ++ m) := by
  show Str.mk _ = Str.mk _
  simp [S]
theorem take_all {α : Type} (l : List α) {n m : Nat} (h : l.length ≤ n) (k : l.length ≤ m) : l.take n = l.take m := by
  rw [List.take_of_length_le h, List.take_of_length_le k]
theorem cut_nat {α : Type} (l : List α) (a b : Nat) : (l.drop (min a l.length)).take (min b l.length - min a l.length) = (l.drop a).take (b - a) := by
  rcases Nat.le_total a l.length with ha | ha
  · have e : min a l.length = a := by omega
    rw [e]
    rcases Nat.le_total b l.length with hb | hb
    · have e : min b l.length = b := by omega
      rw [e]
    · exact take_all _ (by rw [List.length_drop]; omega) (by rw [List.length_drop]; omega)
  · have e : min a l.length = l.length := by omega
    rw [e, List.drop_of_length_le (Nat.le_refl l.length), List.drop_of_length_le ha]
    simp
theorem S_cut (l : Wd) (a b : Nat) : cutS (S l) (some (a : Int)) (some (b : Int)) = S (piece l a b) := by
  unfold cutS piece
  rw [S_len, HT.sIx_nat, HT.sIx_nat, S_cps, cut_nat]
  rfl
theorem S_cutLo (l : Wd) (a : Nat) : cutS (S l) (some (a : Int)) none = S (l.drop a) := by
  have e : cutS (S l) (some (a : Int)) none = cutS (S l) (some (a : Int)) (some ((l.length : Nat) : Int)) := by
    unfold cutS
    rw [S_len, HT.sIx_nat, HT.sIx_nat, HT.sIx_none, Nat.min_self]
  rw [e, S_cut]
  show S _ = S _
  congr 1
  exact List.take_of_length_le (by rw [List.length_drop]; omega)
theorem S_cutHi (l : Wd) (b : Nat) : cutS (S l) none (some (b : Int)) = S (l.take b) := by
  have e : cutS (S l) none (some (b : Int)) = cutS (S l) (some ((0 : Nat) : Int)) (some (b : Int)) := by
    unfold cutS
    have z : ∀ n : Nat, HT.sIx n 0 (some ((0 : Nat) : Int)) = 0 := fun n => by rw [HT.sIx_nat, Nat.zero_min]
    rw [z, HT.sIx_none]
  rw [e, S_cut]
  rfl
/-- a row of texts -/
def Ss (ws : List Wd) : List V := ws.map fun w => V.str (S w)
theorem Ss_get {ws : List Wd} {i : Nat} {x : V} (h : (Ss ws)[i]? = some x) : ∃ w, ws[i]? = some w ∧ x = .str (S w) := by
  unfold Ss at h
  rw [List.getElem?_map] at h
  cases e : ws[i]? with
  | none => rw [e] at h; cases h
  | some w => rw [e] at h; cases h; exact ⟨w, rfl, rfl⟩
theorem Ss_len (ws : List Wd) : (Ss ws).length = ws.length := List.length_map ..
def Lt (c : Nat) : Prop := 97 ≤ c ∧ c ≤ 122
instance {c : Nat} : Decidable (Lt c) := inferInstanceAs (Decidable (_ ∧ _))
/-- all of its signs are letters -/
def Lw (l : Wd) : Prop := ∀ c ∈ l, Lt c
theorem Lw.piece {l : Wd} (h : Lw l) (a b : Nat) : Lw (piece l a b) := fun c m => h c (List.mem_of_mem_drop (List.mem_of_mem_take m))
theorem Lw.drop {l : Wd} (h : Lw l) (a : Nat) : Lw (l.drop a) := fun c m => h c (List.mem_of_mem_drop m)
theorem Lw.take {l : Wd} (h : Lw l) (a : Nat) : Lw (l.take a) := fun c m => h c (List.mem_of_mem_take m)
theorem Lw.app {l m : Wd} (h : Lw l) (k : Lw m) : Lw (l ++ m) := fun c z => (List.mem_append.mp z).elim (h c) (k c)
theorem Lw.nil : Lw [] := fun _ m => nomatch m
theorem Lw.one {c : Nat} (h : Lt c) : Lw [c] := fun x m => by rw [List.mem_singleton.mp m]; exact h
def alpha : Str := "abcdefghijklmnopqrstuvwxyz"
theorem alpha_S : alpha = S (List.range' 97 26) := by decide +kernel
theorem alpha_in (c : Nat) : decide (c ∈ alpha.cps.toList) = decide (Lt c) := by
  rw [alpha_S, S_cps]
  rw [decide_eq_decide]
  unfold Lt
  rw [List.mem_range'_1]
  omega
theorem alpha_at {i : Nat} (h : i < 26) : (List.range' 97 26)[i]? = some (97 + i) := by
  rw [List.getElem?_range' h]; simp
end WW
/-! ### readings of texts -/
namespace RD
open PySem L2
section
variable {σ : L2.St} {H : Hp} {Q : VK} {K : PySem.W.Frag} {l m : WW.Wd} {a b : Nat} {i j : Int}
def rAddS : R2 := fun x y H Q => ∃ i j, x = .str i ∧ y = .str j ∧ i.length + j.length ≤ sizeLine ∧ Q (.str (i ++ j)) H
theorem o_addS {X : Cx} : OpR X (binaryOp .Add) rAddS := op_add_str
theorem d_addS (n : l.length + m.length ≤ sizeLine) (h : Q (.str (WW.S (l ++ m))) H) : rAddS (.str (WW.S l)) (.str (WW.S m)) H Q :=
  ⟨_, _, rfl, rfl, by rw [WW.S_len, WW.S_len]; exact n, by rw [WW.S_app]; exact h⟩
def rSign : R2 := fun x y H Q => ∃ (c : Nat) (z : Str), x = .str ⟨#[c]⟩ ∧ y = .str z ∧ Q (.bl (decide (c ∈ z.cps.toList))) H
theorem o_sign {X : Cx} : OpR X (compareOp .In) rSign := op_in_sign
theorem d_alpha {c : Nat} (h : Q (.bl (decide (WW.Lt c))) H) : rSign (.str ⟨#[c]⟩) (.str "abcdefghijklmnopqrstuvwxyz") H Q :=
  ⟨c, _, rfl, rfl, by rw [show decide (c ∈ (("abcdefghijklmnopqrstuvwxyz" : Str)).cps.toList) = decide (WW.Lt c) from WW.alpha_in c]; exact h⟩
theorem d_cutS {i j : Int} (hi : i = a) (hj : j = b) (n : l.length ≤ sizeLine) (h : Q (.str (WW.S (WW.piece l a b))) H) : rSlS (.str (WW.S l)) (some i) (some j) H Q := by
  subst hi hj
  exact ⟨_, rfl, by rw [WW.S_len]; exact n, by rw [WW.S_cut]; exact h⟩
theorem d_cutSLo {i : Int} (hi : i = a) (n : l.length ≤ sizeLine) (h : Q (.str (WW.S (l.drop a))) H) : rSlS (.str (WW.S l)) (some i) none H Q := by
  subst hi
  exact ⟨_, rfl, by rw [WW.S_len]; exact n, by rw [WW.S_cutLo]; exact h⟩
theorem d_cutSHi {i : Int} (hi : i = b) (n : l.length ≤ sizeLine) (h : Q (.str (WW.S (l.take b))) H) : rSlS (.str (WW.S l)) none (some i) H Q := by
  subst hi
  exact ⟨_, rfl, by rw [WW.S_len]; exact n, by rw [WW.S_cutHi]; exact h⟩
theorem d_lenW (n : l.length ≤ sizeLine) (h : Q (.int l.length) H) : rLen K [.str (WW.S l)] H Q := ⟨_, _, rfl, ⟨by rw [WW.S_len]; exact n, rfl⟩, by rw [WW.S_len]; exact h⟩
theorem d_ixS {i : Int} {c : Nat} (hi : i = a) (n : l.length ≤ sizeLine) (e : l[a]? = some c) (h : Q (.str (WW.S [c])) H) : rIxS (.str (WW.S l)) (.int i) H Q := by
  subst hi
  exact ⟨_, _, c, rfl, rfl, by rw [WW.S_len]; exact n, by rw [WW.S_cps]; exact atI_nat e, h⟩
theorem d_eqW (h : Q (.bl (decide (l = m))) H) : rEq (.str (WW.S l)) (.str (WW.S m)) H Q := ⟨rfl, by
  have e : decide (V.str (WW.S l) = V.str (WW.S m)) = decide (l = m) := by rw [decide_eq_decide]; exact ⟨fun z => WW.S_inj.mp (V.str.inj z), fun z => by rw [z]⟩
  rw [e]; exact h⟩
theorem d_neW (h : Q (.bl (!decide (l = m))) H) : rNe (.str (WW.S l)) (.str (WW.S m)) H Q := ⟨rfl, by
  have e : decide (V.str (WW.S l) = V.str (WW.S m)) = decide (l = m) := by rw [decide_eq_decide]; exact ⟨fun z => WW.S_inj.mp (V.str.inj z), fun z => by rw [z]⟩
  rw [e]; exact h⟩
end
end RD

/-! ### enumerate over a tuple -/
namespace OQ
open PySem L2 PySem.Spec PyProof.Rows
theorem meets_enumV {v : Value} {o : Obj} {B : Heap → Prop} (b : Begins v o B) :
    Meets (Builtin.«enumerate.__new__» ⟨[.type "enumerate", v], []⟩) (fun _ R z => B z.heap ∧
      R (.ok (.ret (.ref (z.heap.push o).objs.size))) { z with heap := (z.heap.push o).push { cls := .type "enumerate", data := .fields #[.none, .bool false, .ref z.heap.objs.size, rawInt 0, .none, .none] } }) :=
  .of_wp fun P W A R z q => by
    obtain ⟨hp, g, d, tk, os⟩ := z; obtain ⟨b0, q⟩ := q
    have know := sub_enumerate
    have begin_ : ∀ {A' : Around} {E Q : Value → Shared → Prop}, Q (.ref hp.objs.size) ⟨hp.push o, g, d, tk, os⟩ → wpAny (model P W) A' (pyIter v) Q E ⟨hp, g, d, tk, os⟩ :=
      fun r => b.iter P W _ _ ⟨hp, g, d, tk, os⟩ _ b0 r
    wp_walk using begin_
    refine wpAny_stack_any fun _ => wpAny_pure ?_
    split
    · rename_i c _ _ _ _ _
      cases (c == Value.type "enumerate") <;> (wp_walk using begin_; exact ⟨_, rfl, q⟩)
    · (wp_walk using begin_; exact ⟨_, rfl, q⟩)
theorem call_enumV {P : Program} {W : World} {A : Around} {E Q : Value → Shared → Prop} {z : Shared} {v : Value} {o : Obj} {B : Heap → Prop} (b : Begins v o B) (b0 : B z.heap)
    (q : ∀ h', IsEnum h' (z.heap.objs.size + 1) z.heap.objs.size 0 .none → h'.get? z.heap.objs.size = some o → (∀ c u, z.heap.get? c = some u → h'.get? c = some u) → Q (.ref (z.heap.objs.size + 1)) { z with heap := h' }) :
    wpAny (model P W) A (call (.type "enumerate") [v]) Q E z := by
  refine callType_new F.called_enumerate (by decide) (F.typeCall_enumerate_1 _) (F.newCall_enumerate_1 _) (fun _ => F.args_object_init_2 _ _) F.entry_enumerate_new (meets_enumV b) ⟨b0, ?_⟩
  have n1 : (z.heap.push o).objs.size = z.heap.objs.size + 1 := Heap.size_push ..
  have e1 := Heap.get?_push_size (z.heap.push o) (o := { cls := .type "enumerate", data := .fields #[.none, .bool false, .ref z.heap.objs.size, rawInt 0, .none, .none] }) rfl
  rw [n1] at e1
  show _ ∧ _
  rw [n1]
  exact ⟨⟨_, e1, rfl⟩, q _ e1 (Heap.get?_push_of_some _ (Heap.get?_push_size _ b.free)) fun c u x => Heap.get?_push_of_some _ (Heap.get?_push_of_some _ x)⟩
/-- the tuple at a, each item in a new pair behind its number -/
def IteT (K : PySem.W.Frag) (a : Addr) : It where
  go i H := ∃ xs x, SqT K H a xs ∧ xs[i]? = some x
  yld i H v H' := ∃ T x, v = .ref T ∧ H T = none ∧ H' = upd H T (.tup [.int (i : Nat), x]) ∧ ∀ xs, SqT K H a xs → xs[i]? = some x
  stop i H := ∃ xs, SqT K H a xs ∧ xs.length ≤ i
theorem two_mem {b e it : Addr} (h : b ∈ [e, it]) : b = e ∨ b = it := by simpa using h
theorem turn_enumT {P : Program} {w : World} {K : PySem.W.Frag} {elts : List Expr} {kk : Nat} {tpos : Pos} (a e it : Addr) :
    Turn P w K (.Tuple elts kk tpos) (IteT K a) [e, it] e (fun i h => (∃ old, IsEnum h e it ((i : Nat) : Int) old) ∧ h.IsTupleIter it a i ∧ e ≠ it) where
  mem := List.mem_cons_self ..
  obj := fun i h st b hb => by
    obtain ⟨⟨old, x1⟩, ⟨o, x2, _, x3⟩, _⟩ := st
    rcases two_mem hb with rfl | rfl
    · exact ⟨_, x1, fun _ z => nomatch z⟩
    · exact ⟨o, x2, fun _ z => by rw [x3] at z; cases z⟩
  keep := fun i h h' st k => ⟨st.1.imp fun _ y => k e (List.mem_cons_self ..) _ y, st.2.1.at fun o y => k it (by simp) o y, st.2.2⟩
  item := by
    intro X hP hw hK hc i pins s σ H E I hf st hg
    subst hP hw hK
    obtain ⟨⟨old, x1⟩, x2, ne⟩ := st
    obtain ⟨xs, x, sq, hx⟩ := hg
    obtain ⟨its, rv, pt, _⟩ := I.tuple sq
    obtain ⟨u, hu, ru⟩ := rv.get hx
    have pt' : s.heap.IsTuple a its.toArray := pt
    have na : a ≠ it := fun z => by
      subst z
      obtain ⟨o1, y1, c1, _⟩ := x2
      obtain ⟨o2, y2, c2, _⟩ := pt'
      rw [y1] at y2
      cases y2
      rw [c1] at c2
      simp at c2
    have le : e < s.heap.objs.size := Heap.lt_size x1
    have li : it < s.heap.objs.size := let ⟨_, y, _⟩ := x2; Heap.lt_size y
    have la : a < s.heap.objs.size := let ⟨_, y, _⟩ := pt'; Heap.lt_size y
    have nea : e ≠ a := fun z => by
      subst z
      obtain ⟨o2, y2, c2, _⟩ := pt'
      have y1 : s.heap.get? e = _ := x1
      rw [y1] at y2
      cases y2
      simp at c2
    have lt : i < its.toArray.size := by
      have := rv.length
      have := (List.getElem?_eq_some_iff.mp hx).1
      rw [List.size_toArray]; omega
    refine wpAny_pyNext_enum_itemD (Draws.tuple (A := X.A.in1) (show X.A.in1.handled = none from I.ok.hd hc) it a na its.toArray) x1 ⟨x2, pt'⟩ lt ne (by intro z; rcases two_mem z with z | z; exact ne z; exact nea z) fun y h1 tk hy out st1 hT _ hk => ?_
    have ey : y = u := by
      have : its.toArray[i]? = some u := by simpa using hu
      rw [this] at hy
      exact (Option.some.inj hy).symm
    subst ey
    refine ⟨_, rfl, wpAny_letOwnedTupleGo_enum (s := { s with heap := h1, toks := tk + 1 }) out fun h2 x3 sb => ?_⟩
    have hT2 := (sb.2 _ (Nat.ne_of_gt le)).trans hT
    have new : ObjOk X.prog X.w (upd H s.heap.objs.size (.tup [.int (i : Nat), x])) h2 s.heap.objs.size (.tup [.int (i : Nat), x]) :=
      ⟨by show 2 ≤ sizeLine; decide, [.int i tk, y], .cons ⟨_, rfl⟩ (.cons ru .nil), ⟨_, hT2, rfl, _, rfl⟩⟩
    have I2 : Inv X pins σ (upd H s.heap.objs.size (.tup [.int (i : Nat), x])) { s with heap := h2, toks := tk + 1 } :=
      I.turnedNew (ch := [e, it]) (fun b o nb q => (sb.2 b (fun z => nb (by simp [z]))).trans (hk b o (fun z => nb (by simp [z])) (fun z => nb (by simp [z])) q)) hf (Nat.le_refl _) new
    refine ⟨.ref s.heap.objs.size, _, I2, rfl, ⟨_, x, rfl, I.hok.fresh (Nat.le_refl _), rfl, fun ys hy => by rw [I.tuple_inj hy sq]; exact hx⟩, ⟨⟨y, ?_⟩, st1.1.at fun o q => (sb.2 it (Ne.symm ne)).trans q, ne⟩, fun b hb => ?_⟩
    · rw [Int.natCast_succ]; exact x3
    · have lb : b < s.heap.objs.size := (two_mem hb).elim (fun z => z ▸ le) (fun z => z ▸ li)
      rw [upd_ne (Nat.ne_of_lt lb)]
      exact (hf b hb).1
  done := by
    intro X hP hw hK hc i pins s σ H E I hf st hg
    subst hP hw hK
    obtain ⟨⟨old, x1⟩, x2, ne⟩ := st
    obtain ⟨xs, sq, lx⟩ := hg
    obtain ⟨its, rv, pt, _⟩ := I.tuple sq
    obtain ⟨f0, f1, f2, f3, f4, f5⟩ := hf it (by simp)
    have pt' : s.heap.IsTuple a its.toArray := pt
    have len := rv.length
    have hT : s.TypeIs (.ref e) "enumerate" := ⟨_, x1, rfl⟩
    unfold pyNext
    refine wpAny_bind (wpAny_attempt (wpAny_callSpecial?_slot (name := Str.ofString "__next__") hT F.slot_enumerate_next
      (wpAny_call_entry F.slot_enumerate_next hT F.entry_enumerate_next ?_ (F.args_enumerate_next_1 _))))
    show wpAny _ _ (field (.ref e) 2 >>= _) _ _ _
    refine wpAny_bind (wpAny_field x1 rfl (x := .ref it) rfl ?_)
    refine wpAny_bind (wpAny_nextOf_tuple_end (I.ok.hd hc) x2 pt' (by simp; omega) fun h' x he' hx' => ?_)
    obtain ⟨o, ho, c⟩ := hx'
    exact wpAny_bind (wpAny_isInstance (T := "StopIteration") (b := true) ⟨o, ho, c⟩ isSubtype_stop (wpAny_pure ⟨rfl, I.turned (t' := s.toks) (fun b u nb q => he' b u nb q) f0 f1 f3 f4 f5⟩))
  self := fun A i s Q E st h => let ⟨⟨_, x1⟩, _⟩ := st; wpAny_pyIter_enum x1 h
def iEnumT (K : PySem.W.Frag) (ta : TA) : TI := fun σ H R => ta σ H fun vs H1 => ∃ a xs, vs = [.ref a] ∧ SqT K H1 a xs ∧ R (IteT K a) H1
theorem pi_enumT {X : Cx} {arg : Expr} {ta : TA} {p q tp : Pos} {elts : List Expr} {kk : Nat} (hg : Gl X "enumerate") (hm : X.mg "enumerate" = none) (ha : PA X [arg] ta) (hs : starEach [arg] X.env = [(false, eval arg X.env)] := by rfl) :
    PI X (.Tuple elts kk tp) (.Call (.Name "enumerate" p) [arg] [] q) (iEnumT X.K ta) := by
  refine ⟨fun pins s σ H R I asked => Call_ (ld_blt I hg hm boot_enumerate (callWith_type1 (thn (ha.run q pins s σ H _ I asked) fun us s1 ⟨vs, H1, I1, rel, a, xs, evs, sq, go⟩ => ?_) hs rfl))⟩
  subst evs
  cases rel with
  | cons one rest =>
    cases rest
    cases one
    obtain ⟨its, rv, pt, _⟩ := I1.tuple sq
    have pt' : s1.heap.IsTuple a its.toArray := pt
    refine call_enumV (begins_tuple a its.toArray) pt' fun h' x1 x2 hk => wpAny_pyIter_enum x1 ?_
    refine ⟨s1.heap.objs.size + 1, [s1.heap.objs.size + 1, s1.heap.objs.size], _, _, H1, rfl, I1.kept (t' := s1.toks) hk, turn_enumT a (s1.heap.objs.size + 1) s1.heap.objs.size, ⟨⟨.none, x1⟩, ⟨_, x2, rfl, rfl⟩, Nat.succ_ne_self _⟩, fun b hb => ?_, go⟩
    have lb : s1.heap.objs.size ≤ b := by
      rcases two_mem hb with z | z
      · exact z ▸ Nat.le_succ _
      · exact z ▸ Nat.le_refl _
    exact I1.fpOk lb (I1.hok.fresh lb)
/-- enumerate of a list or of a tuple -/
theorem walk_enumT {K : PySem.W.Frag} {a : Addr} {xs : List V} : Walk (IteT K a) xs.length (fun H => SqT K H a xs) (YPair (fun i => some (.int (i : Nat))) (fun i => xs[i]?)) where
  goes i _ hi q := ⟨xs, xs[i], q, List.getElem?_eq_getElem hi⟩
  stops _ q := ⟨xs, q, Nat.le_refl _⟩
  yields i H v H' _ q y := let ⟨T, x, h1, h2, h3, h4⟩ := y; ⟨T, .int (i : Nat), x, h1, h2, h3, rfl, h4 xs q⟩
end OQ

/-! ### rows: lists or tuples -/
namespace OQ
open PySem L2 PySem.Spec PyProof.Rows
def SeqAt (K : PySem.W.Frag) (H : Hp) (a : Addr) (xs : List V) : Prop := SqL K H a xs ∨ SqT K H a xs
theorem sqT_same {K : PySem.W.Frag} {H H' : Hp} {a : Addr} {xs : List V} (h : SqT K H a xs) (e : Same H H') : SqT K H' a xs :=
  h.imp (fun h => h.imp (e _ _) fun ⟨o, h⟩ => ⟨o, e _ _ h⟩) id
theorem SeqAt.same {K : PySem.W.Frag} {H H' : Hp} {a : Addr} {xs : List V} (h : SeqAt K H a xs) (e : Same H H') : SeqAt K H' a xs :=
  h.imp e.seq fun h => sqT_same h e
theorem SeqAt.len {K : PySem.W.Frag} {H : Hp} {a : Addr} {xs : List V} {Q : VK} (h : SeqAt K H a xs) (k : Q (.int xs.length) H) : RD.rLen K [.ref a] H Q :=
  h.elim (fun h => RD.d_lenL h k) fun h => RD.d_lenT h k
/-- the one way of walking or the other -/
def iOr (u w : TI) : TI := fun σ H R => u σ H R ∨ w σ H R
theorem pi_or {X : Cx} {tg e : Expr} {u w : TI} (h : PI X tg e u) (k : PI X tg e w) : PI X tg e (iOr u w) :=
  ⟨fun pins s σ H R I z => z.elim (h.run pins s σ H R I) (k.run pins s σ H R I)⟩
theorem pi_seq {X : Cx} {tg e : Expr} {te : TE} (he : PE X e te) : PI X tg e (iOr (iList X.K te) (iTup X.K te)) := pi_or (pi_list he) (pi_tup he)
theorem d_seqVar {K : PySem.W.Frag} {σ : L2.St} {H : Hp} {R : It → Hp → Prop} {n : Nat} {a : Addr} {xs : List V} (e : σ[n]? = some (some (.ref a))) (h : SeqAt K H a xs)
    (k : ∀ J G, Walk J xs.length G (YAt xs) → (∀ H', Same H H' → G H') → R J H) : iOr (iList K (tVar n)) (iTup K (tVar n)) σ H R := by
  rcases h with h | h
  · exact .inl ⟨_, e, a, rfl, ⟨xs, h⟩, k _ _ walk_list fun H' s => s.seq h⟩
  · exact .inr ⟨_, e, a, rfl, ⟨xs, h⟩, k _ _ walk_tup fun H' s => sqT_same h s⟩
theorem d_enumVar {K : PySem.W.Frag} {σ : L2.St} {H : Hp} {R : It → Hp → Prop} {n : Nat} {a : Addr} {xs : List V} (e : σ[n]? = some (some (.ref a))) (h : SeqAt K H a xs)
    (k : ∀ J G, Walk J xs.length G (YPair (fun i => some (.int (i : Nat))) (fun i => xs[i]?)) → (∀ H', Same H H' → G H') → R J H) :
    iOr (iEnum K (tCons (tVar n) tNil)) (iEnumT K (tCons (tVar n) tNil)) σ H R := by
  rcases h with h | h
  · exact .inl ⟨_, e, a, xs, rfl, h, k _ _ walk_enum fun H' s => s.seq h⟩
  · exact .inr ⟨_, e, a, xs, rfl, h, k _ _ walk_enumT fun H' s => sqT_same h s⟩
theorem eqV_str {z y : Str} : eqV (.str z) (.str y) = (z == y) := rfl
theorem inV_Ss (w : WW.Wd) (ws : List WW.Wd) : inV (.str (WW.S w)) (WW.Ss ws) = decide (w ∈ ws) := by
  unfold inV WW.Ss
  rw [Bool.eq_iff_iff]
  simp only [List.any_map, List.any_eq_true, Function.comp, decide_eq_true_eq, eqV_str, beq_iff_eq, WW.S_inj]
  constructor
  · rintro ⟨x, m, rfl⟩; exact m
  · intro m; exact ⟨w, m, rfl⟩
theorem flat_Ss (ws : List WW.Wd) : (WW.Ss ws).all flatV = true := by
  unfold WW.Ss
  rw [List.all_map]
  exact List.all_eq_true.mpr fun _ _ => rfl
theorem d_inSs {K : PySem.W.Frag} {H : Hp} {Q : VK} {a : Addr} {w : WW.Wd} {ws : List WW.Wd} (h : SeqAt K H a (WW.Ss ws)) (k : Q (.bl (decide (w ∈ ws))) H) : rIn K false (.str (WW.S w)) (.ref a) H Q :=
  ⟨a, _, rfl, h, rfl, flat_Ss ws, by rw [inV_Ss]; exact k⟩
theorem d_notInSs {K : PySem.W.Frag} {H : Hp} {Q : VK} {a : Addr} {w : WW.Wd} {ws : List WW.Wd} (h : SeqAt K H a (WW.Ss ws)) (k : Q (.bl (!decide (w ∈ ws))) H) : rIn K true (.str (WW.S w)) (.ref a) H Q :=
  ⟨a, _, rfl, h, rfl, flat_Ss ws, by rw [inV_Ss]; exact k⟩
end OQ
namespace OQ
open PySem L2 PySem.Spec PyProof.Rows
theorem sortK {X : Cx} (K : PySem.W.Frag) (h : X.K = K := by rfl) : CallR X (.builtin "sorted") (rSortedI K) := h ▸ cr_sortedI
theorem lenK {X : Cx} (K : PySem.W.Frag) (h : X.K = K := by rfl) : CallR X (.builtin "len") (RD.rLen K) := h ▸ RD.c_len
theorem inK {X : Cx} (K : PySem.W.Frag) (h : X.K = K := by rfl) : OpR X (compareOp .In) (rIn K false) := h ▸ op_in_seq
theorem notInK {X : Cx} (K : PySem.W.Frag) (h : X.K = K := by rfl) : OpR X (compareOp .NotIn) (rIn K true) := h ▸ op_notIn_seq
end OQ

/-! ### any for, step by step -/
namespace RD
open PySem L2
theorem f_it {J : It} {n : Nat} {G : Hp → Prop} {Y : Nat → Hp → V → Hp → Prop} {σ : L2.St} {H : Hp} {g : TG} {tb : TS} {nx : L2.St → Hp → Prop} {rt : VK} (w : Walk J n G Y) (Pv : Nat → L2.St → Hp → Prop) (h0 : Pv 0 σ H) (hG : ∀ i σ H, i ≤ n → Pv i σ H → G H)
    (hs : ∀ i x σ H H', i < n → Pv i σ H → Y i H x H' → g x σ H' fun σ2 H2 => tb ⟨Pv (i + 1), rt, nx, Pv (i + 1)⟩ σ2 H2) (hd : ∀ σ H, Pv n σ H → nx σ H) :
    ∃ W : Nat → Nat → L2.St → Hp → Prop, (∃ m, W 0 m σ H) ∧ ∀ i m σ H, W i m σ H → (J.stop i H ∧ nx σ H) ∨ (J.go i H ∧ ∃ N : L2.St → Hp → Prop, (∀ σ' H', N σ' H' → ∃ m', m' < m ∧ W (i + 1) m' σ' H') ∧
      ∀ x H', J.yld i H x H' → g x σ H' fun σ2 H2 => tb ⟨N, rt, nx, N⟩ σ2 H2) := for_it (D := ⟨nx, rt, fun _ _ => False, fun _ _ => False⟩) w Pv h0 hG hs hd
/-- a pair taken apart by two names -/
theorem d_two {K : PySem.W.Frag} {n i j : Nat} {a : Addr} {x y : V} {σ : L2.St} {H : Hp} {R : L2.St → Hp → Prop} (en : n = 2) (e : SqT K H a [x, y]) (k : R ((σ.set i (some x)).set j (some y)) H) :
    gTup K n (gCons (gName i) (gCons (gName j) gNil)) (.ref a) σ H R := ⟨a, [x, y], rfl, e, en.symm, x, [y], rfl, y, [], rfl, rfl, k⟩
end RD
namespace OQ
open PySem L2
theorem d_tupSeq {K : PySem.W.Frag} {H : Hp} {a : Addr} {xs : List V} {Q : VK} (h : SeqAt K H a xs) (k : ∀ H' t, Same H H' → SqT K H' t xs → Q (.ref t) H') : rTupK K [.ref a] H Q := by
  rcases h with h | h
  · exact ⟨a, xs, rfl, .inl ⟨h, fun l hl => k _ l (fun b u e => by rw [upd_ne (ne_of_none e hl)]; exact e) (SqT.of upd_same)⟩⟩
  · exact ⟨a, xs, rfl, .inr ⟨h, k _ a (Same.refl _) h⟩⟩
end OQ
namespace RD
open PySem L2
theorem d_bm {K : PySem.W.Frag} {T : String} {r : V → List V → Hp → VK → Prop} {to : TE} {t : TA} {σ : L2.St} {H : Hp} {Q : VK} (h : to σ H fun x H1 => tyV K T x H1 ∧ t σ H1 fun xs H2 => r x xs H2 Q) : tBM K T r to t σ H Q := h
theorem tyL {K : PySem.W.Frag} {H : Hp} {p : Addr} {xs : List V} (e : H p = some (.lst xs)) : tyV K "list" (.ref p) H := .inl ⟨rfl, xs, SqL.of e⟩
theorem d_app {H : Hp} {Q : VK} {p : Addr} {xs : List V} {y : V} (e : H p = some (.lst xs)) (n : xs.length < sizeLine) (h : Q .non (upd H p (.lst (xs ++ [y])))) : rAppend (.ref p) [y] H Q := ⟨p, xs, y, rfl, rfl, e, n, h⟩
end RD
namespace WW
open PySem L2
def Ns (r : List Nat) : List V := r.map fun (j : Nat) => V.int j
theorem Ns_len (r : List Nat) : (Ns r).length = r.length := List.length_map ..
theorem Ns_app (r : List Nat) (j : Nat) : Ns r ++ [V.int j] = Ns (r ++ [j]) := by unfold Ns; rw [List.map_append]; rfl
theorem Ns_get {r : List Nat} {i : Nat} {x : V} (h : (Ns r)[i]? = some x) : ∃ j, r[i]? = some j ∧ x = .int (j : Nat) := by
  unfold Ns at h
  rw [List.getElem?_map] at h
  cases e : r[i]? with
  | none => rw [e] at h; cases h
  | some w => rw [e] at h; cases h; exact ⟨w, rfl, rfl⟩
end WW
namespace RD
open PySem L2
theorem d_dput {td ty tv : TE} {σ : L2.St} {H : Hp} {nx bk ct : L2.St → Hp → Prop} {rt : VK} (h : tv σ H fun v H1 => td σ H1 fun x H2 => ty σ H2 fun y H3 => ∃ a H4, x = .ref a ∧ DPut H3 a y v H4 ∧ nx σ H4) : sDPut td ty tv ⟨nx, rt, bk, ct⟩ σ H := h
theorem d_dget {td ty : TE} {σ : L2.St} {H : Hp} {Q : VK} (h : td σ H fun x H1 => ty σ H1 fun y H2 => ∃ a v, x = .ref a ∧ DGet H2 a y (some v) ∧ Q v H2) : tDGet td ty σ H Q := h
end RD
namespace RD
open PySem L2
theorem d_din {ty td : TE} {σ : L2.St} {H : Hp} {Q : VK} (h : ty σ H fun y H1 => td σ H1 fun x H2 => ∃ a o, x = .ref a ∧ DGet H2 a y o ∧ Q (.bl o.isSome) H2) : tDIn ty td σ H Q := h
theorem d_dnotin {ty td : TE} {σ : L2.St} {H : Hp} {Q : VK} (h : ty σ H fun y H1 => td σ H1 fun x H2 => ∃ a o, x = .ref a ∧ DGet H2 a y o ∧ Q (.bl (!o.isSome)) H2) : tDNotIn ty td σ H Q := h
end RD
namespace RD
open PySem L2
theorem d_break {nx bk ct : L2.St → Hp → Prop} {rt : VK} {σ : L2.St} {H : Hp} (h : bk σ H) : tBreak ⟨nx, rt, bk, ct⟩ σ H := h
end RD
namespace WW
open PySem L2
theorem Ss_app (ws : List Wd) (w : Wd) : Ss ws ++ [V.str (S w)] = Ss (ws ++ [w]) := by unfold Ss; rw [List.map_append]; rfl
theorem nodup_snoc {α : Type} {l : List α} {x : α} (h : l.Nodup) (n : x ∉ l) : (l ++ [x]).Nodup := by
  rw [List.nodup_append]
  refine ⟨h, by simp, fun a ha b hb q => ?_⟩
  rw [List.mem_singleton] at hb
  subst hb; subst q
  exact n ha
end WW
namespace RD
open PySem L2
theorem d_lstRg {ta : TE} {σ : L2.St} {H : Hp} {Q : VK} (h : ta σ H fun x H1 => ∃ n, x = .int n ∧ RgOk 0 n ∧ ∀ q, H1 q = none → Q (.ref q) (upd H1 q (.lst (rgV 0 n)))) : tLstRg (tRg1 ta) σ H Q := h
end RD

/-! ### breadth first -/
namespace WW
open PySem L2
def Dk (ps : List (Nat × Nat)) : List (Key × V) := ps.map fun p => (Sum.inl (p.1 : Int), V.int p.2)
def look (ps : List (Nat × Nat)) (v : Nat) : Option Nat := (ps.find? fun p => p.1 == v).map (·.2)
theorem valV_Dk (ps : List (Nat × Nat)) (v : Nat) : valV (Dk ps) (Sum.inl (v : Int)) = (look ps v).map fun (d : Nat) => V.int d := by
  induction ps with
  | nil => rfl
  | cons p ps ih =>
    unfold Dk look at *
    rw [List.map_cons, List.find?_cons]
    by_cases c : p.1 = v
    · rw [valV_pos (by rw [c])]
      simp [c]
    · rw [valV_neg (fun z => c (by have := Sum.inl.inj z; omega)), ih]
      have e : (p.1 == v) = false := by simpa using c
      rw [e]
theorem look_none {ps : List (Nat × Nat)} {v : Nat} : look ps v = none ↔ v ∉ ps.map (·.1) := by
  unfold look
  rw [Option.map_eq_none_iff, List.find?_eq_none, List.mem_map]
  constructor
  · rintro h ⟨p, m, e⟩
    exact h p m (by simpa using e)
  · intro h p m e
    exact h ⟨p, m, by simpa using e⟩
theorem look_snoc {ps : List (Nat × Nat)} {v r : Nat} (h : look ps v = none) (w : Nat) : look (ps ++ [(v, r)]) w = if w = v then some r else look ps w := by
  by_cases c : w = v
  · subst c
    rw [if_pos rfl]
    unfold look at *
    rw [List.find?_append]
    rw [Option.map_eq_none_iff] at h
    simp [h]
  · rw [if_neg c]
    unfold look
    rw [List.find?_append]
    have : ((v, r) :: []).find? (fun p : Nat × Nat => p.1 == w) = none := by simp; exact fun z => c z.symm
    rw [this]
    simp
theorem Dk_put {ps : List (Nat × Nat)} {v r : Nat} (h : look ps v = none) : putK (Dk ps) (Sum.inl (v : Int)) (.int r) = Dk (ps ++ [(v, r)]) := by
  rw [putK_new]
  · unfold Dk; rw [List.map_append]; rfl
  · rw [valV_Dk, h]; rfl
/-- what is found while the ring of those r steps away is gone through: Sn was seen -/
structure Bf (E : Nat → Nat → Prop) (g n r : Nat) (ps : List (Nat × Nat)) (far : List Nat) (Sn : Nat → Prop) : Prop where
  st : ∀ v d, look ps v = some d ↔ (Ds E g d v ∧ d ≤ r) ∨ (d = r + 1 ∧ Ds E g (r + 1) v ∧ Sn v)
  far : ∀ v, v ∈ far ↔ Ds E g (r + 1) v ∧ Sn v
  nd : (ps.map (·.1)).Nodup
  lt : ∀ p ∈ ps, p.1 < n
theorem Bf.iff {E : Nat → Nat → Prop} {g n r : Nat} {ps : List (Nat × Nat)} {far : List Nat} {Sn Sm : Nat → Prop} (h : Bf E g n r ps far Sn) (e : ∀ v, Sm v ↔ Sn v) : Bf E g n r ps far Sm :=
  ⟨fun v d => by rw [h.st, e], fun v => by rw [h.far, e], h.nd, h.lt⟩
theorem Bf.len {E : Nat → Nat → Prop} {g n r : Nat} {ps : List (Nat × Nat)} {far : List Nat} {Sn : Nat → Prop} (h : Bf E g n r ps far Sn) : ps.length ≤ n := by
  have := nodup_len n _ h.nd (fun x m => by obtain ⟨p, mp, rfl⟩ := List.mem_map.mp m; exact h.lt p mp)
  rwa [List.length_map] at this
theorem Bf.here {E : Nat → Nat → Prop} {g n r : Nat} {ps : List (Nat × Nat)} {far : List Nat} {Sn : Nat → Prop} (h : Bf E g n r ps far Sn) {u : Nat} (hu : Ds E g r u) : look ps u = some r := (h.st u r).mpr (.inl ⟨hu, Nat.le_refl _⟩)
theorem Bf.old {E : Nat → Nat → Prop} {g n r : Nat} {ps : List (Nat × Nat)} {far : List Nat} {Sn : Nat → Prop} (h : Bf E g n r ps far Sn) {v : Nat} (hv : look ps v ≠ none) : Bf E g n r ps far (fun w => Sn w ∨ w = v) := by
  have key : Ds E g (r + 1) v → Sn v := fun k => by
    cases e : look ps v with
    | none => exact absurd e hv
    | some d =>
      rcases (h.st v d).mp e with ⟨k2, le⟩ | ⟨_, _, s⟩
      · have := k.uniq k2; omega
      · exact s
  have same : ∀ w, (Ds E g (r + 1) w ∧ (Sn w ∨ w = v)) ↔ (Ds E g (r + 1) w ∧ Sn w) := fun w => by
    constructor
    · rintro ⟨a, b | rfl⟩
      · exact ⟨a, b⟩
      · exact ⟨a, key a⟩
    · rintro ⟨a, b⟩; exact ⟨a, .inl b⟩
  exact ⟨fun w d => by rw [h.st, same], fun w => by rw [h.far, same], h.nd, h.lt⟩
theorem Bf.new {E : Nat → Nat → Prop} {g n r : Nat} {ps : List (Nat × Nat)} {far : List Nat} {Sn : Nat → Prop} (h : Bf E g n r ps far Sn) {u v : Nat} (hu : Ds E g r u) (e : E u v) (hn : v < n) (hv : look ps v = none) : Bf E g n r (ps ++ [(v, r + 1)]) (far ++ [v]) (fun w => Sn w ∨ w = v) := by
  have dv : Ds E g (r + 1) v := by
    rcases hu.step e with k | ⟨s, hs, k⟩
    · exact k
    · have := (h.st v s).mpr (.inl ⟨k, hs⟩)
      rw [hv] at this; cases this
  refine ⟨fun w d => ?_, fun w => ?_, ?_, ?_⟩
  · rw [look_snoc hv]
    by_cases c : w = v
    · subst c
      rw [if_pos rfl]
      constructor
      · intro z; cases z; exact .inr ⟨rfl, dv, .inr rfl⟩
      · rintro (⟨k, le⟩ | ⟨rfl, _, _⟩)
        · have := k.uniq dv; omega
        · rfl
    · rw [if_neg c, h.st]
      constructor
      · rintro (k | ⟨a, b, s⟩)
        · exact .inl k
        · exact .inr ⟨a, b, .inl s⟩
      · rintro (k | ⟨a, b, s | s⟩)
        · exact .inl k
        · exact .inr ⟨a, b, s⟩
        · exact (c s).elim
  · rw [List.mem_append, h.far, List.mem_singleton]
    constructor
    · rintro (⟨a, s⟩ | rfl)
      · exact ⟨a, .inl s⟩
      · exact ⟨dv, .inr rfl⟩
    · rintro ⟨a, s | s⟩
      · exact .inl ⟨a, s⟩
      · exact .inr s
  · rw [List.map_append, List.nodup_append]
    refine ⟨h.nd, by simp, fun a ha b hb q => ?_⟩
    simp at hb
    subst hb; subst q
    exact (look_none.mp hv) ha
  · intro p m
    rcases List.mem_append.mp m with m | m
    · exact h.lt p m
    · rw [List.mem_singleton.mp m]; exact hn
/-- between the rounds -/
structure Bo (E : Nat → Nat → Prop) (g n r : Nat) (ps : List (Nat × Nat)) (ring : List Nat) : Prop where
  st : ∀ v d, look ps v = some d ↔ Ds E g d v ∧ d ≤ r
  ring : ∀ v, v ∈ ring ↔ Ds E g r v
  nd : (ps.map (·.1)).Nodup
  lt : ∀ p ∈ ps, p.1 < n
theorem Bo.zero {E : Nat → Nat → Prop} {g n : Nat} (hg : g < n) : Bo E g n 0 [(g, 0)] [g] := by
  have z : ∀ v, Ds E g 0 v ↔ v = g := fun v => ⟨fun h => h.1, fun h => ⟨h, fun _ k => absurd k (Nat.not_lt_zero _)⟩⟩
  refine ⟨fun v d => ?_, fun v => by rw [z, List.mem_singleton], by simp, by simp; exact hg⟩
  unfold look
  by_cases c : g = v
  · subst c
    simp
    constructor
    · rintro rfl; exact ⟨(z _).mpr rfl, rfl⟩
    · rintro ⟨_, h⟩; exact h.symm
  · simp [c]
    intro k
    intro q
    subst q
    exact c ((z _).mp k).symm
theorem Bo.begin {E : Nat → Nat → Prop} {g n r : Nat} {ps : List (Nat × Nat)} {ring : List Nat} (h : Bo E g n r ps ring) : Bf E g n r ps [] (fun _ => False) :=
  ⟨fun v d => by rw [h.st]; simp, fun v => by simp, h.nd, h.lt⟩
theorem Bf.done {E : Nat → Nat → Prop} {g n r : Nat} {ps : List (Nat × Nat)} {ring far : List Nat} {Sn : Nat → Prop} (h : Bf E g n r ps far Sn) (hr : ∀ v, v ∈ ring ↔ Ds E g r v) (hs : ∀ u v, u ∈ ring → E u v → Sn v) : Bo E g n (r + 1) ps far := by
  have se : ∀ v, Ds E g (r + 1) v → Sn v := fun v k => by
    obtain ⟨u, ku, e⟩ := k.back
    exact hs u v ((hr u).mpr ku) e
  refine ⟨fun v d => ?_, fun v => ?_, h.nd, h.lt⟩
  · rw [h.st]
    constructor
    · rintro (⟨k, le⟩ | ⟨rfl, k, _⟩)
      · exact ⟨k, by omega⟩
      · exact ⟨k, Nat.le_refl _⟩
    · rintro ⟨k, le⟩
      by_cases c : d ≤ r
      · exact .inl ⟨k, c⟩
      · have : d = r + 1 := by omega
        subst this
        exact .inr ⟨rfl, k, se v k⟩
  · rw [h.far]
    exact ⟨fun k => k.1, fun k => ⟨k, se v k⟩⟩
theorem Bo.end_ {E : Nat → Nat → Prop} {g n r : Nat} {ps : List (Nat × Nat)} (h : Bo E g n r ps []) (v d : Nat) : look ps v = some d ↔ Ds E g d v := by
  rw [h.st]
  refine ⟨fun k => k.1, fun k => ⟨k, ?_⟩⟩
  by_cases c : d ≤ r
  · exact c
  · obtain ⟨u, ku⟩ := k.down r (by omega)
    exact nomatch (h.ring u).mpr ku
end WW

/-! ### the law's marks -/
namespace WW
open PySem L2
def Ms (n : Nat) (m : Nat → Int) : List V := (List.range n).map fun i => V.int (m i)
theorem Ms_len (n : Nat) (m : Nat → Int) : (Ms n m).length = n := by unfold Ms; rw [List.length_map, List.length_range]
theorem Ms_get {n i : Nat} (m : Nat → Int) (h : i < n) : (Ms n m)[i]? = some (.int (m i)) := by unfold Ms; rw [List.getElem?_map, List.getElem?_range h]; rfl
theorem Ms_set {n i : Nat} (m : Nat → Int) (v : Int) : (Ms n m).set i (.int v) = Ms n (fun j => if j = i then v else m j) := by
  apply List.ext_getElem?
  intro j
  by_cases hj : j < n
  · rw [Ms_get _ hj, List.getElem?_set]
    by_cases c : i = j
    · subst c
      rw [if_pos rfl, Ms_len, if_pos hj, if_pos rfl]
    · rw [if_neg c, if_neg (fun z => c z.symm), Ms_get _ hj]
  · rw [List.getElem?_eq_none (by rw [List.length_set, Ms_len]; omega), List.getElem?_eq_none (by rw [Ms_len]; omega)]
theorem rgV_Ms (n : Nat) : rgV 0 (n : Int) = Ms n (fun i => (i : Int)) := by
  unfold rgV Ms
  rw [show ((n : Int) - 0).toNat = n from by omega]
  refine List.map_congr_left fun i _ => ?_
  rw [Int.zero_add]
/-- the links ahead of spot sp of the watch kk -/
def MkF (ws : List Wd) (W : Wd) (kk sp : Nat) (i j : Nat) : Prop := ∃ l k w, ws[k]? = some w ∧ Hit W l w ∧ (k < kk ∨ (k = kk ∧ l < sp)) ∧ ((i = l ∧ j = l + w.length) ∨ (j = l ∧ i = l + w.length))
theorem MkF.zero {ws : List Wd} {W : Wd} {i j : Nat} : ¬ MkF ws W 0 0 i j := by
  rintro ⟨l, k, w, _, _, c, _⟩
  omega
theorem MkF.next {ws : List Wd} {W w : Wd} {kk sp i j : Nat} (hk : ws[kk]? = some w) (n : w ≠ []) (hs : W.length < sp + w.length) : MkF ws W kk sp i j ↔ MkF ws W (kk + 1) 0 i j := by
  refine ⟨fun ⟨l, k, v, h1, h2, c, h3⟩ => ⟨l, k, v, h1, h2, by omega, h3⟩, fun ⟨l, k, v, h1, h2, c, h3⟩ => ⟨l, k, v, h1, h2, ?_, h3⟩⟩
  by_cases e : k = kk
  · subst e
    rw [hk] at h1; cases h1
    have := h2.bound n
    omega
  · omega
theorem MkF.all {ws : List Wd} {W : Wd} {i j : Nat} : MkF ws W ws.length 0 i j ↔ Link ws W i j := by
  constructor
  · rintro ⟨l, k, w, h1, h2, c, h3⟩
    refine ⟨w, List.mem_of_getElem? h1, ?_⟩
    rcases h3 with ⟨rfl, e⟩ | ⟨rfl, e⟩
    · exact .inl ⟨h2, e⟩
    · exact .inr ⟨h2, e⟩
  · rintro ⟨w, m, h⟩
    obtain ⟨k, hk⟩ := List.getElem?_of_mem m
    have := (List.getElem?_eq_some_iff.mp hk).1
    rcases h with ⟨h, e⟩ | ⟨h, e⟩
    · exact ⟨i, k, w, hk, h, by omega, .inl ⟨rfl, e⟩⟩
    · exact ⟨j, k, w, hk, h, by omega, .inr ⟨rfl, e⟩⟩
theorem MkF.miss {ws : List Wd} {W : Wd} {kk sp : Nat} {w : Wd} (hk : ws[kk]? = some w) (h : ¬ Hit W sp w) (i j : Nat) : MkF ws W kk (sp + 1) i j ↔ MkF ws W kk sp i j := by
  refine ⟨fun ⟨l, k, v, h1, h2, c, h3⟩ => ⟨l, k, v, h1, h2, ?_, h3⟩, fun ⟨l, k, v, h1, h2, c, h3⟩ => ⟨l, k, v, h1, h2, by omega, h3⟩⟩
  rcases c with c | ⟨rfl, c⟩
  · exact .inl c
  · by_cases e : l = sp
    · subst e
      rw [hk] at h1
      cases h1
      exact (h h2).elim
    · exact .inr ⟨rfl, by omega⟩
theorem MkF.hit {ws : List Wd} {W : Wd} {kk sp : Nat} {w : Wd} (hk : ws[kk]? = some w) (h : Hit W sp w) (i j : Nat) : MkF ws W kk (sp + 1) i j ↔ addE (MkF ws W kk sp) sp (sp + w.length) i j := by
  constructor
  · rintro ⟨l, k, v, h1, h2, c, h3⟩
    by_cases e : l = sp ∧ k = kk
    · obtain ⟨rfl, rfl⟩ := e
      rw [hk] at h1
      cases h1
      rcases h3 with ⟨rfl, rfl⟩ | ⟨rfl, rfl⟩
      · exact .inr (.inl ⟨rfl, rfl⟩)
      · exact .inr (.inr ⟨rfl, rfl⟩)
    · exact .inl ⟨l, k, v, h1, h2, by omega, h3⟩
  · rintro (⟨l, k, v, h1, h2, c, h3⟩ | h3)
    · exact ⟨l, k, v, h1, h2, by omega, h3⟩
    · refine ⟨sp, kk, w, hk, h, by omega, ?_⟩
      rcases h3 with ⟨rfl, rfl⟩ | ⟨rfl, rfl⟩
      · exact .inl ⟨rfl, rfl⟩
      · exact .inr ⟨rfl, rfl⟩
theorem Cls.iff {m : Nat → Int} {n : Nat} {F G : Nat → Nat → Prop} (h : Cls m n F) (e : ∀ i j, G i j ↔ F i j) : Cls m n G :=
  ⟨fun i j hi hj z => (h.snd i j hi hj z).mono fun u v k => (e u v).mpr k, fun i j z => h.cmp i j ((e i j).mp z)⟩
theorem Cls.zero {ws : List Wd} {W : Wd} {n : Nat} : Cls (fun i => (i : Int)) n (MkF ws W 0 0) :=
  ⟨fun i j _ _ z => by have : i = j := by omega
                       subst this; exact .refl, fun i j z => (MkF.zero z).elim⟩
/-- marks of the first at spots set anew -/
def relabTo (m : Nat → Int) (a b at_ : Nat) : Nat → Int := fun i => if i < at_ ∧ m i = m b then m a else m i
theorem relabTo_zero (m : Nat → Int) (a b : Nat) : relabTo m a b 0 = m := by funext i; unfold relabTo; rw [if_neg (by omega)]
theorem relabTo_a {m : Nat → Int} {a b t : Nat} : relabTo m a b t a = m a := by unfold relabTo; split <;> rfl
theorem relabTo_at {m : Nat → Int} {a b t : Nat} : relabTo m a b t t = m t := by unfold relabTo; rw [if_neg (by omega)]
theorem relabTo_hit {m : Nat → Int} {a b t : Nat} (h : m t = m b) : (fun j => if j = t then m a else relabTo m a b t j) = relabTo m a b (t + 1) := by
  funext j
  unfold relabTo
  by_cases c : j = t
  · subst c; rw [if_pos rfl, if_pos ⟨by omega, h⟩]
  · rw [if_neg c]
    by_cases d : j < t ∧ m j = m b
    · rw [if_pos d, if_pos ⟨by omega, d.2⟩]
    · rw [if_neg d, if_neg (fun z => d ⟨by omega, z.2⟩)]
theorem relabTo_miss {m : Nat → Int} {a b t : Nat} (h : m t ≠ m b) : relabTo m a b (t + 1) = relabTo m a b t := by
  funext j
  unfold relabTo
  by_cases d : j < t ∧ m j = m b
  · rw [if_pos d, if_pos ⟨by omega, d.2⟩]
  · rw [if_neg d, if_neg (fun z => d ⟨by
      rcases Nat.lt_or_ge j t with q | q
      · exact q
      · have : j = t := by omega
        subst this; exact (h z.2).elim, z.2⟩)]
theorem Ms_congr {n : Nat} {m m' : Nat → Int} (h : ∀ i, i < n → m i = m' i) : Ms n m = Ms n m' := by
  unfold Ms
  exact List.map_congr_left fun i hi => by rw [h i (List.mem_range.mp hi)]
end WW

/-! ### rows of texts, compared -/
namespace OQ
open PySem L2 PySem.Spec PyProof.Rows
def Td (ls : List WW.Wd) : List PyData := ls.map fun l => .str (WW.S l)
theorem Td_all {K : PySem.W.Frag} {H : Hp} : ∀ ls : List WW.Wd, DpAll K H (WW.Ss ls) (Td ls)
  | [] => .nil
  | l :: ls => .cons (.str _) (Td_all ls)
theorem Td_lay : ∀ ls : List WW.Wd, (∀ l ∈ ls, WW.Lw l) → PyData.canLayAll0 (Td ls) = true ∧ PyData.depthAll (Td ls) = 0
  | [], _ => ⟨by rw [Td, List.map_nil, PyData.canLayAll0], by rw [Td, List.map_nil, PyData.depthAll]⟩
  | l :: ls, h => by
    obtain ⟨h1, h2⟩ := Td_lay ls fun x m => h x (List.mem_cons_of_mem _ m)
    have hl := h l (List.mem_cons_self ..)
    have e : Td (l :: ls) = .str (WW.S l) :: Td ls := rfl
    rw [e, PyData.canLayAll0, PyData.canLay0, PyData.depthAll, PyData.depth, h1, h2]
    refine ⟨?_, rfl⟩
    rw [Bool.and_true]
    show (WW.S l).cps.all (· < 0x110000) = true
    have : ∀ c ∈ l, c < 0x110000 := fun c m => by have := hl c m; unfold WW.Lt at this; omega
    simpa [WW.S] using this
theorem Td_shaped (ls : List WW.Wd) (h : ∀ l ∈ ls, WW.Lw l) : SeqAt.shaped (.list (Td ls)) = true ∧ SeqAt.shaped (.tuple (Td ls)) = true := by
  obtain ⟨h1, h2⟩ := Td_lay ls h
  constructor <;> (unfold SeqAt.shaped; rw [PyData.canLay0, PyData.depth, h1, h2]; rfl)
theorem Td_eqv : ∀ ls ms : List WW.Wd, PyData.eqvAll (Td ls) (Td ms) = decide (ls = ms)
  | [], [] => by rw [Td, List.map_nil, PyData.eqvAll]; rfl
  | [], m :: ms => by rw [Td, Td, List.map_nil, List.map_cons, PyData.eqvAll]; rfl
  | l :: ls, [] => by rw [Td, Td, List.map_nil, List.map_cons, PyData.eqvAll]; rfl
  | l :: ls, m :: ms => by
    have e1 : Td (l :: ls) = .str (WW.S l) :: Td ls := rfl
    have e2 : Td (m :: ms) = .str (WW.S m) :: Td ms := rfl
    rw [e1, e2, PyData.eqvAll, PyData.eqv, Td_eqv ls ms, Bool.eq_iff_iff]
    simp only [Bool.and_eq_true, beq_iff_eq, decide_eq_true_eq, List.cons.injEq, WW.S_inj]
theorem d_neSs {K : PySem.W.Frag} {H : Hp} {Q : VK} {a b : Addr} {ls ms : List WW.Wd} (ha : SqL K H a (WW.Ss ls)) (hb : SqL K H b (WW.Ss ms)) (la : ∀ l ∈ ls, WW.Lw l) (lb : ∀ l ∈ ms, WW.Lw l) (k : Q (.bl (!decide (ls = ms))) H) : rNeD K (.ref a) (.ref b) H Q :=
  ⟨_, _, .lst ha (Td_all ls), .lst hb (Td_all ms), (Td_shaped ls la).1, (Td_shaped ms lb).1, by rw [PyData.eqv, Td_eqv]; exact k⟩
theorem d_eqSs {K : PySem.W.Frag} {H : Hp} {Q : VK} {a b : Addr} {ls ms : List WW.Wd} (ha : SqL K H a (WW.Ss ls)) (hb : SqL K H b (WW.Ss ms)) (la : ∀ l ∈ ls, WW.Lw l) (lb : ∀ l ∈ ms, WW.Lw l) (k : Q (.bl (decide (ls = ms))) H) : rEqD K (.ref a) (.ref b) H Q :=
  ⟨_, _, .lst ha (Td_all ls), .lst hb (Td_all ms), (Td_shaped ls la).1, (Td_shaped ms lb).1, by rw [PyData.eqv, Td_eqv]; exact k⟩
theorem d_eqSsT {K : PySem.W.Frag} {H : Hp} {Q : VK} {a b : Addr} {ls ms : List WW.Wd} (ha : SqT K H a (WW.Ss ls)) (hb : SqT K H b (WW.Ss ms)) (la : ∀ l ∈ ls, WW.Lw l) (lb : ∀ l ∈ ms, WW.Lw l) (k : Q (.bl (decide (ls = ms))) H) : rEqD K (.ref a) (.ref b) H Q :=
  ⟨_, _, .tup ha (Td_all ls), .tup hb (Td_all ms), (Td_shaped ls la).2, (Td_shaped ms lb).2, by rw [PyData.eqv, Td_eqv]; exact k⟩
theorem d_neSsT {K : PySem.W.Frag} {H : Hp} {Q : VK} {a b : Addr} {ls ms : List WW.Wd} (ha : SqT K H a (WW.Ss ls)) (hb : SqT K H b (WW.Ss ms)) (la : ∀ l ∈ ls, WW.Lw l) (lb : ∀ l ∈ ms, WW.Lw l) (k : Q (.bl (!decide (ls = ms))) H) : rNeD K (.ref a) (.ref b) H Q :=
  ⟨_, _, .tup ha (Td_all ls), .tup hb (Td_all ms), (Td_shaped ls la).2, (Td_shaped ms lb).2, by rw [PyData.eqv, Td_eqv]; exact k⟩
end OQ

/-! ### a piece found in a word -/
namespace WW
open PySem L2
theorem Hit.of_sub {W w : Wd} {i : Nat} : Builtin.Str.subAt (S W) (S w) i = true ↔ Hit W i w := by
  rw [StrLaws.subAt_eq, beq_iff_eq, S_cps, S_cps, S_len]
  unfold Hit piece
  rw [Nat.add_sub_cancel_left]
theorem occ_full (s sub : Str) (hi : Nat) : ∀ (l : List Nat) (a f : Nat), (forIn l (#[a], f) (StrLaws.occBody s sub hi 1)).run.fst = #[a]
  | [], a, f => rfl
  | x :: l, a, f => by
    rw [List.forIn_cons]
    unfold StrLaws.occBody
    rw [if_neg (by intro h; have := h.1.1.1; simp at this)]
    exact occ_full s sub hi l a f
theorem occ_first (s sub : Str) (hi : Nat) : ∀ (n lo free : Nat), free ≤ lo →
    (∃ i, lo ≤ i ∧ i < lo + n ∧ i + sub.length ≤ hi ∧ Builtin.Str.subAt s sub i = true ∧ (∀ j, lo ≤ j → j < i → ¬ (j + sub.length ≤ hi ∧ Builtin.Str.subAt s sub j = true)) ∧ (forIn (List.range' lo n) ((#[] : Array Nat), free) (StrLaws.occBody s sub hi 1)).run.fst = #[i]) ∨
    ((∀ j, lo ≤ j → j < lo + n → ¬ (j + sub.length ≤ hi ∧ Builtin.Str.subAt s sub j = true)) ∧ (forIn (List.range' lo n) ((#[] : Array Nat), free) (StrLaws.occBody s sub hi 1)).run.fst = #[])
  | 0, lo, free, _ => .inr ⟨fun j h1 h2 => by omega, rfl⟩
  | n + 1, lo, free, hf => by
    rw [List.range'_succ, List.forIn_cons]
    by_cases hc : lo + sub.length ≤ hi ∧ Builtin.Str.subAt s sub lo = true
    · refine .inl ⟨lo, Nat.le_refl _, by omega, hc.1, hc.2, fun j h1 h2 => by omega, ?_⟩
      have c1 : (((#[] : Array Nat), free).fst.size < 1 ∧ ((#[] : Array Nat), free).snd ≤ lo) ∧ lo + sub.length ≤ hi := ⟨⟨by simp, hf⟩, hc.1⟩
      have e : StrLaws.occBody s sub hi 1 lo ((#[] : Array Nat), free) = pure (ForInStep.yield (#[lo], lo + sub.length)) := by
        unfold StrLaws.occBody
        rw [if_pos ⟨c1, hc.2⟩]
        rfl
      rw [e]
      exact occ_full s sub hi _ lo _
    · have e : StrLaws.occBody s sub hi 1 lo ((#[] : Array Nat), free) = pure (ForInStep.yield ((#[] : Array Nat), free)) := by
        unfold StrLaws.occBody
        rw [if_neg (fun h => hc ⟨h.1.2, h.2⟩)]
      rw [e]
      rcases occ_first s sub hi n (lo + 1) free (by omega) with ⟨i, h1, h2, h3, h4, h5, h6⟩ | ⟨h1, h2⟩
      · refine .inl ⟨i, by omega, by omega, h3, h4, fun j j1 j2 => ?_, h6⟩
        by_cases c : j = lo
        · subst c; exact hc
        · exact h5 j (by omega) j2
      · refine .inr ⟨fun j j1 j2 => ?_, h2⟩
        by_cases c : j = lo
        · subst c; exact hc
        · exact h1 j (by omega) (by omega)
/-- what a search for w from spot lo on tells: the next spot where it stands, or -1 -/
def Nx (W w : Wd) (lo : Nat) (v : Int) : Prop := (∃ i : Nat, v = i ∧ lo ≤ i ∧ Hit W i w ∧ ∀ j, lo ≤ j → j < i → ¬ Hit W j w) ∨ (v = -1 ∧ ∀ j, lo ≤ j → ¬ Hit W j w)
theorem occ_nx {W w : Wd} {lo : Nat} (n : w ≠ []) : Nx W w lo (match Builtin.Str.occurrences (S W) (S w) lo (S W).length 1 with | i :: _ => (i : Int) | [] => -1) := by
  rw [StrLaws.occ_eq]
  rcases occ_first (S W) (S w) (S W).length ((S W).length + 1 - lo) lo lo (Nat.le_refl _) with ⟨i, h1, h2, h3, h4, h5, h6⟩ | ⟨h1, h2⟩
  · rw [h6]
    refine .inl ⟨i, rfl, h1, Hit.of_sub.mp h4, fun j j1 j2 z => h5 j j1 j2 ⟨?_, Hit.of_sub.mpr z⟩⟩
    rw [S_len, S_len]; exact z.bound n
  · rw [h2]
    refine .inr ⟨rfl, fun j j1 z => ?_⟩
    have b := z.bound n
    have l0 : 0 < w.length := List.length_pos_iff.mpr n
    refine h1 j j1 ?_ ⟨by rw [S_len, S_len]; exact b, Hit.of_sub.mpr z⟩
    rw [S_len]; omega
theorem find_nx {W w : Wd} (n : w ≠ []) : Nx W w 0 (Txt.find (S W) (S w)) := occ_nx n
theorem find3_nx {W w : Wd} {lo : Nat} {i : Int} (n : w ≠ []) (e : i = lo) : Nx W w lo (Txt.find3 (S W) (S w) i) := by
  subst e
  have e : PySem.fromIndex (S W).length (lo : Int) = lo := by
    unfold PySem.fromIndex
    split <;> omega
  have h := occ_nx (W := W) (w := w) (lo := lo) n
  unfold Txt.find3
  rw [e]
  exact h
/-! the links, as they are found piece by piece -/
/-- those found ahead of spot low with the piece kk -/
def LkG (ws : List Wd) (W : Wd) (kk low : Nat) (i j : Nat) : Prop := ∃ l k w, ws[k]? = some w ∧ Hit W l w ∧ (k < kk ∨ (k = kk ∧ l < low)) ∧ ((i = l ∧ j = l + w.length) ∨ (j = l ∧ i = l + w.length))
theorem LkG.zero {ws : List Wd} {W : Wd} {i j : Nat} : ¬ LkG ws W 0 0 i j := by
  rintro ⟨l, k, w, _, _, c, _⟩
  omega
theorem LkG.skip {ws : List Wd} {W w : Wd} {kk lo hi : Nat} (hk : ws[kk]? = some w) (le : lo ≤ hi) (n : ∀ j, lo ≤ j → j < hi → ¬ Hit W j w) (i j : Nat) : LkG ws W kk hi i j ↔ LkG ws W kk lo i j := by
  refine ⟨fun ⟨l, k, v, h1, h2, c, h3⟩ => ⟨l, k, v, h1, h2, ?_, h3⟩, fun ⟨l, k, v, h1, h2, c, h3⟩ => ⟨l, k, v, h1, h2, by omega, h3⟩⟩
  rcases c with c | ⟨rfl, c⟩
  · exact .inl c
  · rw [hk] at h1
    cases h1
    refine .inr ⟨rfl, ?_⟩
    apply Nat.lt_of_not_le
    intro z
    exact n l z c h2
theorem LkG.next {ws : List Wd} {W w : Wd} {kk lo i j : Nat} (hk : ws[kk]? = some w) (n : ∀ j, lo ≤ j → ¬ Hit W j w) : LkG ws W (kk + 1) 0 i j ↔ LkG ws W kk lo i j := by
  refine ⟨fun ⟨l, k, v, h1, h2, c, h3⟩ => ⟨l, k, v, h1, h2, ?_, h3⟩, fun ⟨l, k, v, h1, h2, c, h3⟩ => ⟨l, k, v, h1, h2, by omega, h3⟩⟩
  by_cases e : k = kk
  · subst e
    rw [hk] at h1
    cases h1
    refine .inr ⟨rfl, ?_⟩
    apply Nat.lt_of_not_le
    intro z
    exact n l z h2
  · omega
theorem LkG.all {ws : List Wd} {W : Wd} {i j : Nat} : LkG ws W ws.length 0 i j ↔ Link ws W i j := by
  constructor
  · rintro ⟨l, k, w, h1, h2, c, h3⟩
    refine ⟨w, List.mem_of_getElem? h1, ?_⟩
    rcases h3 with ⟨rfl, e⟩ | ⟨rfl, e⟩
    · exact .inl ⟨h2, e⟩
    · exact .inr ⟨h2, e⟩
  · rintro ⟨w, m, h⟩
    obtain ⟨k, hk⟩ := List.getElem?_of_mem m
    have kl := (List.getElem?_eq_some_iff.mp hk).1
    rcases h with ⟨h, e⟩ | ⟨h, e⟩
    · exact ⟨i, k, w, hk, h, .inl kl, .inl ⟨rfl, e⟩⟩
    · exact ⟨j, k, w, hk, h, .inl kl, .inr ⟨rfl, e⟩⟩
theorem LkG.hit {ws : List Wd} {W : Wd} {low kk : Nat} {w : Wd} (hk : ws[kk]? = some w) (h : Hit W low w) (i j : Nat) : LkG ws W kk (low + 1) i j ↔ addE (LkG ws W kk low) low (low + w.length) i j := by
  constructor
  · rintro ⟨l, k, v, h1, h2, c, h3⟩
    by_cases e : l = low ∧ k = kk
    · obtain ⟨rfl, rfl⟩ := e
      rw [hk] at h1
      cases h1
      rcases h3 with ⟨rfl, rfl⟩ | ⟨rfl, rfl⟩
      · exact .inr (.inl ⟨rfl, rfl⟩)
      · exact .inr (.inr ⟨rfl, rfl⟩)
    · exact .inl ⟨l, k, v, h1, h2, by omega, h3⟩
  · rintro (⟨l, k, v, h1, h2, c, h3⟩ | h3)
    · exact ⟨l, k, v, h1, h2, by omega, h3⟩
    · refine ⟨low, kk, w, hk, h, by omega, ?_⟩
      rcases h3 with ⟨rfl, rfl⟩ | ⟨rfl, rfl⟩
      · exact .inl ⟨rfl, rfl⟩
      · exact .inr ⟨rfl, rfl⟩
theorem LkG.new {ws : List Wd} {W : Wd} {low kk : Nat} {w : Wd} (nd : ws.Nodup) (n : ∀ w ∈ ws, w ≠ []) (hk : ws[kk]? = some w) (h : Hit W low w) : ¬ LkG ws W kk low low (low + w.length) ∧ ¬ LkG ws W kk low (low + w.length) low := by
  have l0 : 0 < w.length := List.length_pos_iff.mpr (n w (List.mem_of_getElem? hk))
  have key : ∀ l k v, ws[k]? = some v → Hit W l v → (k < kk ∨ (k = kk ∧ l < low)) → l = low → v.length = w.length → False := by
    rintro l k v h1 h2 c rfl e
    have e2 : v = w := by
      unfold Hit at h2 h
      rw [← h2, ← h, e]
    subst e2
    have := (List.getElem?_inj (List.getElem?_eq_some_iff.mp h1).1 nd).mp (h1.trans hk.symm)
    omega
  refine ⟨fun ⟨l, k, v, h1, h2, c, h3⟩ => ?_, fun ⟨l, k, v, h1, h2, c, h3⟩ => ?_⟩ <;>
  · have l1 : 0 < v.length := List.length_pos_iff.mpr (n v (List.mem_of_getElem? h1))
    exact key l k v h1 h2 c (by omega) (by omega)
theorem LkG.le {ws : List Wd} {W : Wd} {low kk i j : Nat} (n : ∀ w ∈ ws, w ≠ []) (h : LkG ws W low kk i j) : i ≤ W.length ∧ j ≤ W.length := by
  obtain ⟨l, k, w, h1, h2, c, h3⟩ := h
  have := h2.bound (n w (List.mem_of_getElem? h1))
  omega
/-- rows of links, of pieces that may be alike -/
structure LkJ (rows : Nat → List Nat) (F : Nat → Nat → Prop) (u : Prop) (m : Nat) : Prop where
  mem : ∀ i j, j ∈ rows i ↔ F i j
  nd : u → ∀ i, (rows i).Nodup
  len : ∀ i, (rows i).length ≤ m
theorem push2 (rows : Nat → List Nat) {a b : Nat} (ne : a ≠ b) (i : Nat) : push (push rows a b) b a i = if i = a then rows i ++ [b] else if i = b then rows i ++ [a] else rows i := by
  unfold push
  by_cases c : i = a
  · subst c; rw [if_neg ne, if_pos rfl, if_pos rfl]
  · simp only [if_neg c]
theorem LkJ.add {rows : Nat → List Nat} {F : Nat → Nat → Prop} {u : Prop} {m a b : Nat} (h : LkJ rows F u m) (ne : a ≠ b) (n1 : u → ¬ F a b) (n2 : u → ¬ F b a) : LkJ (push (push rows a b) b a) (addE F a b) u (m + 1) := by
  refine ⟨fun i j => ?_, fun hu => ?_, fun i => ?_⟩
  · rw [push2 rows ne]
    split
    · rename_i c
      subst c
      rw [List.mem_append, h.mem, List.mem_singleton]
      unfold addE
      constructor
      · rintro (z | z)
        · exact .inl z
        · exact .inr (.inl ⟨rfl, z⟩)
      · rintro (z | ⟨_, z⟩ | ⟨_, z⟩)
        · exact .inl z
        · exact .inr z
        · exact (ne z).elim
    · rename_i c
      split
      · rename_i d
        subst d
        rw [List.mem_append, h.mem, List.mem_singleton]
        unfold addE
        constructor
        · rintro (z | z)
          · exact .inl z
          · exact .inr (.inr ⟨z, rfl⟩)
        · rintro (z | ⟨z, _⟩ | ⟨z, _⟩)
          · exact .inl z
          · exact (c z).elim
          · exact .inr z
      · rename_i d
        rw [h.mem]
        unfold addE
        constructor
        · exact .inl
        · rintro (z | ⟨z, _⟩ | ⟨_, z⟩)
          · exact z
          · exact (c z).elim
          · exact (d z).elim
  · exact (LkI.add ⟨h.mem, h.nd hu⟩ ne (n1 hu) (n2 hu)).nd
  · rw [push2 rows ne]
    have := h.len i
    split
    · rw [List.length_append, List.length_singleton]; omega
    · split
      · rw [List.length_append, List.length_singleton]; omega
      · omega
theorem LkJ.iff {rows : Nat → List Nat} {F G : Nat → Nat → Prop} {u : Prop} {m n : Nat} (h : LkJ rows F u m) (e : ∀ i j, G i j ↔ F i j) (le : m ≤ n) : LkJ rows G u n := ⟨fun i j => (h.mem i j).trans (e i j).symm, h.nd, fun i => Nat.le_trans (h.len i) le⟩
theorem LkJ.zero {ws : List Wd} {W : Wd} {u : Prop} : LkJ (fun _ => []) (LkG ws W 0 0) u 0 := ⟨fun i j => ⟨fun z => (nomatch z), fun z => (LkG.zero z).elim⟩, fun _ _ => List.nodup_nil, fun _ => Nat.le_refl _⟩
/-- ints sorted, as numbers, some alike -/
theorem sorted_natsG {r : List Nat} {ns : List Int} (p : ns.Perm (r.map fun (j : Nat) => (j : Int))) (s : ns.Pairwise (· ≤ ·)) : ∃ q : List Nat, ns = q.map (fun (j : Nat) => (j : Int)) ∧ q.Perm r ∧ q.Pairwise (· ≤ ·) := by
  refine ⟨ns.map Int.toNat, ?_, ?_, ?_⟩
  · rw [List.map_map]
    have : ∀ z ∈ ns, ((fun (j : Nat) => (j : Int)) ∘ Int.toNat) z = z := fun z m => by
      obtain ⟨j, _, rfl⟩ := List.mem_map.mp (p.mem_iff.mp m)
      simp
    rw [List.map_congr_left this, List.map_id']
  · have := p.map Int.toNat
    rw [List.map_map] at this
    have e : (Int.toNat ∘ fun (j : Nat) => (j : Int)) = id := by funext x; simp
    rw [e, List.map_id] at this
    exact this
  · rw [List.pairwise_map]
    exact s.imp fun h => by omega
theorem strict_of {q : List Nat} (s : q.Pairwise (· ≤ ·)) (nd : q.Nodup) : q.Pairwise (· < ·) := by
  have := s.and nd
  exact this.imp fun ⟨h1, h2⟩ => by omega
end WW
namespace RD
open PySem L2
theorem tyS {K : PySem.W.Frag} {H : Hp} {z : Str} : tyV K "str" (.str z) H := rfl
def rFind1 : V → List V → Hp → VK → Prop := fun x xs H Q => ∃ a b, x = .str a ∧ xs = [.str b] ∧ Q (.int (Txt.find a b)) H
def rFind2 : V → List V → Hp → VK → Prop := fun x xs H Q => ∃ (a b : Str) (i : Int), x = .str a ∧ xs = [.str b, .int i] ∧ Q (.int (Txt.find3 a b i)) H
theorem m_find1 {X : Cx} : MtR X "str.find" rFind1 := mt_find
theorem m_find2 {X : Cx} : MtR X "str.find" rFind2 := mt_find3
theorem d_find1 {W w : WW.Wd} {H : Hp} {Q : VK} (n : w ≠ []) (h : ∀ v, WW.Nx W w 0 v → Q (.int v) H) : rFind1 (.str (WW.S W)) [.str (WW.S w)] H Q := ⟨_, _, rfl, rfl, h _ (WW.find_nx n)⟩
theorem d_find2 {W w : WW.Wd} {lo : Nat} {i : Int} {H : Hp} {Q : VK} (n : w ≠ []) (e : i = lo) (h : ∀ v, WW.Nx W w lo v → Q (.int v) H) : rFind2 (.str (WW.S W)) [.str (WW.S w), .int i] H Q := ⟨_, _, _, rfl, rfl, h _ (WW.find3_nx n e)⟩
end RD
namespace OQ
open PySem L2
theorem d_seqVar2 {K : PySem.W.Frag} {σ : L2.St} {H0 H : Hp} {R : It → Hp → Prop} {n : Nat} {a : Addr} {xs : List V} (e : σ[n]? = some (some (.ref a))) (h : SeqAt K H0 a xs) (s : Same H0 H)
    (k : ∀ J G, Walk J xs.length G (YAt xs) → (∀ H', Same H0 H' → G H') → R J H) : iOr (iList K (tVar n)) (iTup K (tVar n)) σ H R := by
  rcases h with h | h
  · exact .inl ⟨_, e, a, rfl, ⟨xs, s.seq h⟩, k _ _ walk_list fun H' s => s.seq h⟩
  · exact .inr ⟨_, e, a, rfl, ⟨xs, sqT_same h s⟩, k _ _ walk_tup fun H' s => sqT_same h s⟩
end OQ

/-! ### two tuples of the very same items -/
namespace OQ
open PySem L2 PySem.Spec PyProof.Rows
def SameIt (v : V) : Prop := flatB v = true ∨ ∃ r, v = .ref r
theorem eqAt_it {A : Around} {s : Shared} {v : V} {u u' : Value} (h : SameIt v) (r : RelV v u) (r' : RelV v u') : SeqAt.EqAt A s u u' true := by
  rcases h with h | ⟨a, rfl⟩
  · exact eqAt_same r r' h
  · cases r
    cases r'
    exact SeqAt.EqAt.same _
def rTupS (K : PySem.W.Frag) (ans : Bool) : R2 := fun x y H Q => ∃ a b xs, x = .ref a ∧ y = .ref b ∧ SqT K H a xs ∧ SqT K H b xs ∧ (∀ v ∈ xs, SameIt v) ∧ Q (.bl ans) H
theorem its_same {A : Around} {s : Shared} {xs : List V} {us ws : List Value} (h : ∀ v ∈ xs, SameIt v) (r1 : Vals xs us) (r2 : Vals xs ws) (j : Nat) (h1 : j < us.toArray.size) (h2 : j < ws.toArray.size) :
    SeqAt.EqAt A s us.toArray[j] ws.toArray[j] true := by
  have k1 : j < us.length := by simpa using h1
  have k2 : j < ws.length := by simpa using h2
  have kx : j < xs.length := by rw [r1.length]; exact k1
  obtain ⟨u, hu, ru⟩ := r1.get (List.getElem?_eq_getElem kx)
  obtain ⟨v, hv, rv⟩ := r2.get (List.getElem?_eq_getElem kx)
  rw [List.getElem?_eq_getElem k1] at hu
  rw [List.getElem?_eq_getElem k2] at hv
  have e1 : us.toArray[j] = u := by simpa using Option.some.inj hu
  have e2 : ws.toArray[j] = v := by simpa using Option.some.inj hv
  rw [e1, e2]
  exact eqAt_it (h _ (List.getElem_mem kx)) ru rv
theorem op_neTS {X : Cx} (hu : X.A.units < cLine) : OpR X (compareOp .NotEq) (rTupS X.K false) := by
  rintro pins s σ H x y v u Q I rx ry ⟨a, b, xs, rfl, rfl, ha, hb, hs, q⟩
  cases rx
  cases ry
  obtain ⟨us, r1, p1, _⟩ := I.tuple ha
  obtain ⟨ws, r2, p2, _⟩ := I.tuple hb
  have e := SeqAt.RcNeAt.tuples (e := fun _ => true) p1 p2 hu (fun j h1 h2 => its_same hs r1 r2 j h1 h2)
  refine e X.prog X.w X.xe _ ?_
  have sz : us.toArray.size = ws.toArray.size := by rw [List.size_toArray, List.size_toArray, ← r1.length, ← r2.length]
  have all : (!((List.range (min us.toArray.size ws.toArray.size)).all (fun _ => true) && us.toArray.size == ws.toArray.size)) = false := by rw [sz]; simp
  rw [all]
  exact ⟨.bl false, H, I, rfl, q⟩
section
variable {X : Cx} {CX : CXT} {C f : Addr} {fd : FuncData} {ps : List Str} {sp : Sp} {k : Nat} {ds : List Value} {dvs : List V} {E : L2.St → XK}
/-- o.m(e, ..), what is raised wished for at the slots -/
def tMethS (C : Addr) (m : Str) (sp : Sp) (dvs : List V) (E : L2.St → XK) (ta : TE) (t : TA) : TE := fun σ H Q => ta σ H fun x H1 => ∃ a dx fs, x = .ref a ∧ H1 a = some (.ins C dx fs) ∧ fs.lookup m = none ∧
  t σ H1 fun vs H2 => sp (x :: (vs ++ dvs)) H2 Q (E σ)
theorem d_methS {m : Str} {ta : TE} {t : TA} {σ : L2.St} {H : Hp} {Q : VK} (h : ta σ H fun x H1 => ∃ a dx fs, x = .ref a ∧ H1 a = some (.ins C dx fs) ∧ fs.lookup m = none ∧ t σ H1 fun vs H2 => sp (x :: (vs ++ dvs)) H2 Q (E σ)) :
    tMethS C m sp dvs E ta t σ H Q := h
theorem d_meth {E : XK} {m : Str} {ta : TE} {t : TA} {σ : L2.St} {H : Hp} {Q : VK} (h : ta σ H fun x H1 => ∃ a dx fs, x = .ref a ∧ H1 a = some (.ins C dx fs) ∧ fs.lookup m = none ∧ t σ H1 fun vs H2 => sp (x :: (vs ++ dvs)) H2 Q E) :
    tMeth C m sp dvs E ta t σ H Q := h
theorem pe_methX {o e : Expr} {m : Str} {es : List Expr} {ta : TE} {t : TA} {apos pos : Pos} {pl : Sem Bool} (he : PE X o ta) (c : Cls X.K C) (hm : Meth X.K C m f) (F : FnOk X.prog X.w X.K X.mg X.base CX k f fd ps sp) (hr : Room k X.A)
    (hb : Binds X.K fd ps ds) (hd : Vals dvs ds) (hx : ∀ σ, PassesAt CX X σ (E σ)) (ha : PA X (e :: es) t)
    (hst : starEach (e :: es) X.env = (false, eval e X.env) :: starEach es X.env := by rfl) (hpl : (backTo pos (starEach es X.env)).any (·.1) = false := by rfl)
    (ht : eval (.Call (.Attribute o m apos) (e :: es) [] pos) X.env = (eval o X.env >>= fun ov => standAt apos.atName >>= fun _ => holding [ov] (getMethod ov m pl) >>= fun z =>
      callWith pos z.1 z.2 (backTo pos (starEach (e :: es) X.env)) (backToKw pos (keywordEach [] X.env))) := by rfl) :
    PE X (.Call (.Attribute o m apos) (e :: es) [] pos) (tMethS C m sp dvs E ta t) := by
  refine ⟨fun pins s σ H Q I h => ?_⟩
  refine PySem.W.methodCall_KW (pl := pl) (thn (he.run pins s σ H _ I h) ?_) ht
  rintro u s1 ⟨x, H1, I1, rx, a, dx, fs, rfl, ea, l, q⟩
  cases rx
  refine getmeth_ok I1 ea c hm l ?_
  refine PySem.W.callWith_K (first := [.ref a]) (h₀ := X.base) I.ok.mod.kin hm.kp (thn (ha.run pos pins s1 σ H1 _ I1 q) ?_) hst hpl
  rintro us s2 ⟨vs, H2, I2, r, q2⟩
  exact ⟨I2.kIn, run_fnSD (us := Value.ref a :: us) (vs := V.ref a :: vs) F hr hb hd (hx σ) I2 (.cons rfl r) q2⟩
end
end OQ

/-! ### rows of numbers, compared -/
namespace OQ
open PySem L2 PySem.Spec PyProof.Rows
def Tn (p : List Nat) : List PyData := p.map fun (j : Nat) => .int (j : Int)
theorem Tn_all {K : PySem.W.Frag} {H : Hp} : ∀ p : List Nat, DpAll K H (WW.Ns p) (Tn p)
  | [] => .nil
  | j :: p => .cons (.int _) (Tn_all p)
theorem Tn_lay : ∀ p : List Nat, PyData.canLayAll0 (Tn p) = true ∧ PyData.depthAll (Tn p) = 0
  | [] => ⟨by rw [Tn, List.map_nil, PyData.canLayAll0], by rw [Tn, List.map_nil, PyData.depthAll]⟩
  | j :: p => by
    obtain ⟨h1, h2⟩ := Tn_lay p
    have e : Tn (j :: p) = .int (j : Int) :: Tn p := rfl
    rw [e, PyData.canLayAll0, PyData.canLay0, PyData.depthAll, PyData.depth, h1, h2]
    exact ⟨rfl, rfl⟩
theorem Tn_shaped (p : List Nat) : SeqAt.shaped (.tuple (Tn p)) = true := by
  obtain ⟨h1, h2⟩ := Tn_lay p
  unfold SeqAt.shaped; rw [PyData.canLay0, PyData.depth, h1, h2]; rfl
theorem Tn_eqv : ∀ p : List Nat, PyData.eqvAll (Tn p) (Tn p) = true
  | [] => by rw [Tn, List.map_nil, PyData.eqvAll]
  | j :: p => by
    have e : Tn (j :: p) = .int (j : Int) :: Tn p := rfl
    rw [e, PyData.eqvAll, PyData.eqv, Tn_eqv p]
    simp
/-- nothing, or the same way -/
def SameW (H : Hp) (v u : V) : Prop := (v = .non ∧ u = .non) ∨ ∃ t s p, v = .ref t ∧ u = .ref s ∧ H t = some (.tup (WW.Ns p)) ∧ H s = some (.tup (WW.Ns p))
theorem SameW.eq {K : PySem.W.Frag} {H : Hp} {Q : VK} {v u : V} (h : SameW H v u) (k : Q (.bl true) H) : rEqD K v u H Q := by
  rcases h with ⟨rfl, rfl⟩ | ⟨t, s, p, rfl, rfl, et, es⟩
  · exact ⟨_, _, .non, .non, rfl, rfl, by rw [PyData.eqv]; exact k⟩
  · exact ⟨_, _, .tup (SqT.of et) (Tn_all p), .tup (SqT.of es) (Tn_all p), Tn_shaped p, Tn_shaped p, by rw [PyData.eqv, Tn_eqv]; exact k⟩
theorem SameW.ne {K : PySem.W.Frag} {H : Hp} {Q : VK} {v u : V} (h : SameW H v u) (k : Q (.bl false) H) : rNeD K v u H Q := by
  rcases h with ⟨rfl, rfl⟩ | ⟨t, s, p, rfl, rfl, et, es⟩
  · exact ⟨_, _, .non, .non, rfl, rfl, by rw [PyData.eqv]; exact k⟩
  · exact ⟨_, _, .tup (SqT.of et) (Tn_all p), .tup (SqT.of es) (Tn_all p), Tn_shaped p, Tn_shaped p, by rw [PyData.eqv, Tn_eqv]; exact k⟩
end OQ

/-! ### the faults of tables, as functions -/
namespace RK
open PySem L2
abbrev Fl := Option (Str × Int × Int × Int)
def fnd {α : Type} (n : Nat) (f : Nat → Option α) : Option α := (List.range n).findSome? f
theorem fnd_succ {α : Type} (n : Nat) (f : Nat → Option α) : fnd (n + 1) f = (fnd n f).or (f n) := by
  unfold fnd
  rw [List.range_succ, List.findSome?_append]
  congr 1
  simp [List.findSome?]
  cases f n <;> rfl
theorem fnd_none {α : Type} {n : Nat} {f : Nat → Option α} (h : ∀ i, i < n → f i = none) : fnd n f = none := by
  unfold fnd
  rw [List.findSome?_eq_none_iff]
  exact fun i m => h i (List.mem_range.mp m)
theorem fnd_all {α : Type} {n : Nat} {f : Nat → Option α} (h : fnd n f = none) : ∀ i, i < n → f i = none := fun i hi => by
  unfold fnd at h
  rw [List.findSome?_eq_none_iff] at h
  exact h i (List.mem_range.mpr hi)
theorem fnd_at {α : Type} {n t : Nat} {f : Nat → Option α} {v : α} (h : ∀ i, i < t → f i = none) (ht : t < n) (e : f t = some v) : fnd n f = some v := by
  induction n with
  | zero => omega
  | succ n ih =>
    rw [fnd_succ]
    by_cases c : t = n
    · subst c
      rw [fnd_none h, e]; rfl
    · rw [ih (by omega)]; rfl
theorem fnd_congr {α : Type} {n : Nat} {f g : Nat → Option α} (h : ∀ i, i < n → f i = g i) : fnd n f = fnd n g := by
  induction n with
  | zero => rfl
  | succ n ih => rw [fnd_succ, fnd_succ, ih fun i hi => h i (by omega), h n (by omega)]
def noneF (n : Nat) (J M : Nat → Nat → Nat) (z : Nat) : Fl := fnd n fun a => if J z a = a ∧ J a z = a ∧ M z a = z ∧ M a z = z then none else some ("none", a, -1, -1)
def oneF (n : Nat) (M : Nat → Nat → Nat) (o : Nat) : Fl := fnd n fun a => if M o a = a ∧ M a o = a then none else some ("one", a, -1, -1)
def idleF (n : Nat) (J : Nat → Nat → Nat) : Fl := fnd n fun a => if J a a = a then none else some ("idle", a, -1, -1)
def swapF (n : Nat) (J : Nat → Nat → Nat) : Fl := fnd n fun a => fnd n fun b => if J a b = J b a then none else some ("swap", a, b, -1)
def groupF (w : Str) (n : Nat) (J : Nat → Nat → Nat) : Fl := fnd n fun a => fnd n fun b => fnd n fun c => if J (J a b) c = J a (J b c) then none else some (w, a, b, c)
def overF (n : Nat) (J M : Nat → Nat → Nat) : Fl := fnd n fun a => fnd n fun b => fnd n fun c => if M a (J b c) = J (M a b) (M a c) ∧ M (J b c) a = J (M b a) (M c a) then none else some ("over", a, b, c)
def sameF (z o : Nat) : Fl := if z = o then some ("same", -1, -1, -1) else none
def restF (n : Nat) (J M : Nat → Nat → Nat) (z o : Nat) : Fl :=
  (noneF n J M z).or ((oneF n M o).or ((idleF n J).or ((swapF n J).or ((groupF "join" n J).or ((groupF "product" n M).or ((overF n J M).or (sameF z o)))))))
/-- the fault F as a value -/
def FltAt (H : Hp) (v : V) : Fl → Prop
  | none => v = .non
  | some (w, a, b, c) => ∃ p, v = .ref p ∧ H p = some (.tup [.str w, .int a, .int b, .int c])
theorem FltAt.same {H H' : Hp} {v : V} : ∀ {F : Fl}, FltAt H v F → Same H H' → FltAt H' v F
  | none, h, _ => h
  | some (_, _, _, _), ⟨p, h1, h2⟩, s => ⟨p, h1, s _ _ h2⟩
/-! things, as data -/
def rowsOf : PyData → Option (List PyData)
  | .list ds => some ds
  | .tuple ds => some ds
  | _ => none
def intB : PyData → Bool
  | .int _ => true
  | _ => false
def belowB (n : Nat) : PyData → Bool
  | .int i => decide (0 ≤ i ∧ i < n)
  | _ => false
def sideB (n : Nat) (d : PyData) : Bool := match rowsOf d with
  | some ds => decide (ds.length = n) && ds.all (belowB n)
  | none => false
def squareB (n : Nat) (d : PyData) : Bool := match rowsOf d with
  | some ds => decide (ds.length = n) && ds.all (sideB n)
  | none => false
def natOf : PyData → Nat
  | .int i => i.toNat
  | _ => 0
def cellsOf (d : PyData) : List PyData := (rowsOf d).getD []
def tabf (d : PyData) (i j : Nat) : Nat := natOf ((cellsOf ((cellsOf d)[i]?.getD .none))[j]?.getD .none)
/-- whether sizes and places are as they must be -/
def sizeB (dj dp dz dn : PyData) : Bool := match rowsOf dj with
  | some ds => decide (2 ≤ ds.length ∧ ds.length ≤ 16) && (squareB ds.length dj && (squareB ds.length dp && (belowB ds.length dz && belowB ds.length dn)))
  | none => false
end RK
/-! ### tables of rows that are lists or tuples -/
namespace OQ
open PySem L2 PySem.Spec PyProof.Rows
def Ints (ns : List Nat) : List V := ns.map fun (j : Nat) => V.int j
def RowX (K : PySem.W.Frag) (H : Hp) (r : Addr) (n : Nat) (g : Nat → Nat) : Prop := SeqAt K H r ((List.range n).map fun j => V.int (g j : Nat))
def TabX (K : PySem.W.Frag) (H : Hp) (a : Addr) (n : Nat) (f : Nat → Nat → Nat) : Prop := ∃ rs : List Addr, rs.length = n ∧ SeqAt K H a (rs.map V.ref) ∧ ∀ (i : Nat) (r : Addr), rs[i]? = some r → RowX K H r n (f i)
theorem TabX.same {K : PySem.W.Frag} {H H' : Hp} {a : Addr} {n : Nat} {f : Nat → Nat → Nat} (h : TabX K H a n f) (s : Same H H') : TabX K H' a n f := by
  obtain ⟨rs, l, e, q⟩ := h
  exact ⟨rs, l, e.same s, fun i r z => (q i r z).same s⟩
def rIxA (K : PySem.W.Frag) : R2 := fun x y H Q => ∃ p xs i v, x = .ref p ∧ y = .int i ∧ SeqAt K H p xs ∧ atI xs i = some v ∧ Q v H
theorem ix_seq {X : Cx} : IxR X (rIxA X.K) := by
  intro value slice pins s σ H x y v u Q I rx ry h hs
  obtain ⟨p, xs, i, z, e1, e2, hq | hq, he, q⟩ := h
  · exact ix_list value slice pins s σ H x y v u Q I rx ry ⟨p, xs, i, z, e1, e2, hq, he, q⟩ hs
  · exact ix_tup value slice pins s σ H x y v u Q I rx ry ⟨p, xs, i, z, e1, e2, hq, he, q⟩ hs
theorem ixA {X : Cx} (K : PySem.W.Frag) (h : X.K = K := by rfl) : IxR X (rIxA K) := h ▸ ix_seq
section
variable {K : PySem.W.Frag} {H : Hp} {a : Addr} {n : Nat} {Q : VK}
theorem d_ixA {p : Addr} {xs : List V} {i : Int} {v : V} (hs : SeqAt K H p xs) (e : atI xs i = some v) (h : Q v H) : rIxA K (.ref p) (.int i) H Q := ⟨p, xs, i, v, rfl, rfl, hs, e, h⟩
theorem xT {f : Nat → Nat → Nat} {i : Int} {m : Nat} (h : TabX K H a n f) (e : i = m) (hn : m < n) (k : ∀ r, RowX K H r n (f m) → Q (.ref r) H) : rIxA K (.ref a) (.int i) H Q := by
  obtain ⟨rs, len, ea, rows⟩ := h
  have hm : m < rs.length := by rw [len]; exact hn
  subst e
  exact d_ixA ea (atI_nat (by rw [List.getElem?_map, List.getElem?_eq_getElem hm]; rfl)) (k _ (rows m _ (List.getElem?_eq_getElem hm)))
theorem xR {g : Nat → Nat} {i : Int} {m : Nat} (h : RowX K H a n g) (e : i = m) (hn : m < n) (k : Q (.int (g m : Nat)) H) : rIxA K (.ref a) (.int i) H Q := by
  subst e
  exact d_ixA h (atI_nat (by rw [List.getElem?_map, List.getElem?_range hn]; rfl)) k
theorem TabX.len {f : Nat → Nat → Nat} (h : TabX K H a n f) (k : Q (.int n) H) : RD.rLen K [.ref a] H Q := by
  obtain ⟨rs, len, ea, rows⟩ := h
  refine ea.len ?_
  rw [List.length_map, len]; exact k
theorem RowX.len {g : Nat → Nat} (h : RowX K H a n g) (k : Q (.int n) H) : RD.rLen K [.ref a] H Q := by
  refine SeqAt.len h ?_
  rw [List.length_map, List.length_range]; exact k
end
/-! the data of a thing -/
mutual
theorem Dp.same {K : PySem.W.Frag} {H H' : Hp} (s : Same H H') : ∀ (d : PyData) (v : V), Dp K H v d → Dp K H' v d
  | .none, _, h => by cases h; exact .non
  | .bool b, _, h => by cases h; exact .bl b
  | .int i, _, h => by cases h; exact .int i
  | .str x, _, h => by cases h; exact .str x
  | .list ds, _, h => by
    cases h with
    | lst h1 h2 => exact .lst (s.seq h1) (DpAll.same s ds _ h2)
  | .tuple ds, _, h => by
    cases h with
    | tup h1 h2 => exact .tup (sqT_same h1 s) (DpAll.same s ds _ h2)
  | .dict _, _, h => by cases h
theorem DpAll.same {K : PySem.W.Frag} {H H' : Hp} (s : Same H H') : ∀ (ds : List PyData) (vs : List V), DpAll K H vs ds → DpAll K H' vs ds
  | [], _, h => by cases h; exact .nil
  | d :: ds, _, h => by
    cases h with
    | cons h1 h2 => exact .cons (Dp.same s d _ h1) (DpAll.same s ds _ h2)
end
theorem dpAll_len {K : PySem.W.Frag} {H : Hp} : ∀ {ds : List PyData} {vs : List V}, DpAll K H vs ds → vs.length = ds.length
  | [], _, h => by cases h; rfl
  | _ :: ds, _, h => by
    cases h with
    | cons h1 h2 => rw [List.length_cons, List.length_cons, dpAll_len h2]
theorem dpAll_get {K : PySem.W.Frag} {H : Hp} : ∀ {ds : List PyData} {vs : List V}, DpAll K H vs ds → ∀ {i : Nat} {v : V}, vs[i]? = some v → ∃ d, ds[i]? = some d ∧ Dp K H v d
  | [], _, h, i, v, e => by cases h; simp at e
  | d :: ds, _, h, i, v, e => by
    cases h with
    | cons h1 h2 =>
      cases i with
      | zero => simp at e; subst e; exact ⟨d, rfl, h1⟩
      | succ i => simp at e; obtain ⟨d', q1, q2⟩ := dpAll_get h2 e; exact ⟨d', by simpa using q1, q2⟩
theorem dpAll_of {K : PySem.W.Frag} {H : Hp} : ∀ {vs : List V}, (∀ v ∈ vs, ∃ d, Dp K H v d) → ∃ ds, DpAll K H vs ds
  | [], _ => ⟨[], .nil⟩
  | v :: vs, h => by
    obtain ⟨d, h1⟩ := h v (List.mem_cons_self ..)
    obtain ⟨ds, h2⟩ := dpAll_of (vs := vs) fun x m => h x (List.mem_cons_of_mem _ m)
    exact ⟨d :: ds, .cons h1 h2⟩
theorem dp_row {K : PySem.W.Frag} {H : Hp} {d : PyData} {v : V} {ds : List PyData} (h : Dp K H v d) (e : RK.rowsOf d = some ds) : ∃ a xs, v = .ref a ∧ SeqAt K H a xs ∧ DpAll K H xs ds := by
  cases h with
  | lst h1 h2 => cases e; exact ⟨_, _, rfl, .inl h1, h2⟩
  | tup h1 h2 => cases e; exact ⟨_, _, rfl, .inr h1, h2⟩
  | _ => cases e
theorem SeqAt.ty {K : PySem.W.Frag} {H : Hp} {a : Addr} {xs : List V} (h : SeqAt K H a xs) : ∃ t, TyX K H (.ref a) t ∧ (t = .type "list" ∨ t = .type "tuple") := by
  rcases h with ((h | ⟨o, h⟩) | ⟨o, _, _, h, c, _⟩) | ((h | ⟨o, h⟩) | ⟨o, _, _, h, c, _⟩)
  · exact ⟨_, .base (.lst h), .inl rfl⟩
  · exact ⟨_, .base (.frz h), .inl rfl⟩
  · exact ⟨_, .kList h c, .inl rfl⟩
  · exact ⟨_, .base (.tup h), .inr rfl⟩
  · exact ⟨_, .fTuple h, .inr rfl⟩
  · exact ⟨_, .kTuple h c, .inr rfl⟩
/-- the type of a thing -/
theorem dp_ty {K : PySem.W.Frag} {H : Hp} {d : PyData} {v : V} (h : Dp K H v d) : ∃ t, TyX K H v (.type t) ∧ t ∈ ["NoneType", "bool", "int", "str", "list", "tuple"] ∧ (t = "list" ∨ t = "tuple" ↔ (RK.rowsOf d).isSome = true) ∧ (t = "int" ↔ RK.intB d = true) := by
  cases h with
  | non => exact ⟨_, .base .non, by simp, by simp [RK.rowsOf], by simp [RK.intB]⟩
  | bl b => exact ⟨_, .base (.bl b), by simp, by simp [RK.rowsOf], by simp [RK.intB]⟩
  | int i => exact ⟨_, .base (.int i), by simp, by simp [RK.rowsOf], by simp [RK.intB]⟩
  | str x => exact ⟨_, .base (.str x), by simp, by simp [RK.rowsOf], by simp [RK.intB]⟩
  | lst h1 h2 =>
    rcases h1 with (h | ⟨o, h⟩) | ⟨o, _, _, h, c, _⟩
    · exact ⟨_, .base (.lst h), by simp, by simp [RK.rowsOf], by simp [RK.intB]⟩
    · exact ⟨_, .base (.frz h), by simp, by simp [RK.rowsOf], by simp [RK.intB]⟩
    · exact ⟨_, .kList h c, by simp, by simp [RK.rowsOf], by simp [RK.intB]⟩
  | tup h1 h2 =>
    rcases h1 with (h | ⟨o, h⟩) | ⟨o, _, _, h, c, _⟩
    · exact ⟨_, .base (.tup h), by simp, by simp [RK.rowsOf], by simp [RK.intB]⟩
    · exact ⟨_, .fTuple h, by simp, by simp [RK.rowsOf], by simp [RK.intB]⟩
    · exact ⟨_, .kTuple h c, by simp, by simp [RK.rowsOf], by simp [RK.intB]⟩
theorem dp_isRow {K : PySem.W.Frag} {H : Hp} {d : PyData} {v : V} (h : Dp K H v d) : ∃ t, TyX K H v t ∧ PySem.W.kitAny K t [.type "list", .type "tuple"] = some (RK.rowsOf d).isSome := by
  obtain ⟨t, ty, m, e1, _⟩ := dp_ty h
  refine ⟨_, ty, ?_⟩
  simp only [List.mem_cons, List.not_mem_nil, or_false] at m
  have nl : ∀ {t : String}, ¬ (t = "list" ∨ t = "tuple") → (t = "list" ∨ t = "tuple" ↔ (RK.rowsOf d).isSome = true) → (RK.rowsOf d).isSome = false := fun n e => by
    cases q : (RK.rowsOf d).isSome with
    | false => rfl
    | true => exact (n (e.mpr q)).elim
  have no : ∀ {t : String} {b : Bool}, PySem.W.kitOne K (.type t) (.type "list") = some false → PySem.W.kitOne K (.type t) (.type "tuple") = some b → PySem.W.kitAny K (.type t) [.type "list", .type "tuple"] = some b := fun a c => by
    unfold PySem.W.kitAny
    rw [a]
    unfold PySem.W.kitAny
    simp only [c]
    split <;> simp_all [PySem.W.kitAny]
  rcases m with rfl | rfl | rfl | rfl | rfl | rfl
  · rw [nl (by decide) e1]; exact no (kit_ty (by decide +kernel)) (kit_ty (by decide +kernel))
  · rw [nl (by decide) e1]; exact no (kit_ty (by decide +kernel)) (kit_ty (by decide +kernel))
  · rw [nl (by decide) e1]; exact no (kit_ty (by decide +kernel)) (kit_ty (by decide +kernel))
  · rw [nl (by decide) e1]; exact no (kit_ty (by decide +kernel)) (kit_ty (by decide +kernel))
  · rw [e1.mp (.inl rfl)]
    unfold PySem.W.kitAny
    rw [kit_ty (r := true) (by decide +kernel)]
  · rw [e1.mp (.inr rfl)]; exact no (kit_ty (by decide +kernel)) (kit_ty (by decide +kernel))
theorem dp_isInt {K : PySem.W.Frag} {H : Hp} {d : PyData} {v : V} (h : Dp K H v d) : ∃ (t : Value) (b1 b2 : Bool), TyX K H v t ∧ PySem.W.kitOne K t (.type "int") = some b1 ∧ PySem.W.kitOne K t (.type "bool") = some b2 ∧ RK.intB d = (b1 && !b2) := by
  obtain ⟨t, ty, m, _, e2⟩ := dp_ty h
  simp only [List.mem_cons, List.not_mem_nil, or_false] at m
  have nl : ∀ {t : String}, ¬ t = "int" → (t = "int" ↔ RK.intB d = true) → RK.intB d = false := fun n e => by
    cases q : RK.intB d with
    | false => rfl
    | true => exact (n (e.mpr q)).elim
  rcases m with rfl | rfl | rfl | rfl | rfl | rfl
  · exact ⟨_, false, false, ty, kit_ty (by decide +kernel), kit_ty (by decide +kernel), by rw [nl (by decide) e2]; rfl⟩
  · exact ⟨_, true, true, ty, kit_ty (by decide +kernel), kit_ty (by decide +kernel), by rw [nl (by decide) e2]; rfl⟩
  · exact ⟨_, true, false, ty, kit_ty (by decide +kernel), kit_ty (by decide +kernel), by rw [e2.mp rfl]; rfl⟩
  · exact ⟨_, false, false, ty, kit_ty (by decide +kernel), kit_ty (by decide +kernel), by rw [nl (by decide) e2]; rfl⟩
  · exact ⟨_, false, false, ty, kit_ty (by decide +kernel), kit_ty (by decide +kernel), by rw [nl (by decide) e2]; rfl⟩
  · exact ⟨_, false, false, ty, kit_ty (by decide +kernel), kit_ty (by decide +kernel), by rw [nl (by decide) e2]; rfl⟩
theorem belowB_int {n : Nat} {d : PyData} (h : RK.belowB n d = true) : ∃ i : Int, d = .int i ∧ 0 ≤ i ∧ i < n := by
  unfold RK.belowB at h
  split at h
  · exact ⟨_, rfl, of_decide_eq_true h⟩
  · cases h
theorem sideB_rows {n : Nat} {d : PyData} (h : RK.sideB n d = true) : ∃ ds, RK.rowsOf d = some ds ∧ ds.length = n ∧ ∀ x ∈ ds, RK.belowB n x = true := by
  unfold RK.sideB at h
  split at h
  · rename_i ds e
    rw [Bool.and_eq_true, decide_eq_true_eq, List.all_eq_true] at h
    exact ⟨ds, e, h.1, h.2⟩
  · cases h
theorem squareB_rows {n : Nat} {d : PyData} (h : RK.squareB n d = true) : ∃ ds, RK.rowsOf d = some ds ∧ ds.length = n ∧ ∀ x ∈ ds, RK.sideB n x = true := by
  unfold RK.squareB at h
  split at h
  · rename_i ds e
    rw [Bool.and_eq_true, decide_eq_true_eq, List.all_eq_true] at h
    exact ⟨ds, e, h.1, h.2⟩
  · cases h
/-- a side as a row of numbers -/
theorem dp_side {K : PySem.W.Frag} {H : Hp} {d : PyData} {v : V} {n : Nat} (h : Dp K H v d) (e : RK.sideB n d = true) : ∃ a, v = .ref a ∧ RowX K H a n (fun j => RK.natOf ((RK.cellsOf d)[j]?.getD .none)) ∧ ∀ j, j < n → RK.natOf ((RK.cellsOf d)[j]?.getD .none) < n := by
  obtain ⟨ds, e1, e2, e3⟩ := sideB_rows e
  obtain ⟨a, xs, rfl, sa, da⟩ := dp_row h e1
  have ec : RK.cellsOf d = ds := by unfold RK.cellsOf; rw [e1]; rfl
  have key : ∀ j (hj : j < n), ∃ i : Int, 0 ≤ i ∧ i < n ∧ ds[j]? = some (.int i) ∧ xs[j]? = some (.int i) := fun j hj => by
    have jx : j < xs.length := by rw [dpAll_len da, e2]; exact hj
    obtain ⟨d', q1, q2⟩ := dpAll_get da (List.getElem?_eq_getElem jx)
    obtain ⟨i, rfl, h0, h1⟩ := belowB_int (e3 d' (List.mem_of_getElem? q1))
    refine ⟨i, h0, h1, q1, ?_⟩
    rw [List.getElem?_eq_getElem jx]
    generalize xs[j] = y at q2
    cases q2
    rfl
  refine ⟨a, rfl, ?_, fun j hj => ?_⟩
  · have : xs = (List.range n).map fun j => V.int (RK.natOf ((RK.cellsOf d)[j]?.getD .none) : Nat) := by
      apply List.ext_getElem?
      intro j
      by_cases hj : j < n
      · obtain ⟨i, h0, h1, q1, q2⟩ := key j hj
        rw [q2, List.getElem?_map, List.getElem?_range hj, ec]
        simp only [Option.map_some, q1, Option.getD_some, RK.natOf]
        congr 2
        omega
      · rw [List.getElem?_eq_none (by rw [dpAll_len da, e2]; omega), List.getElem?_eq_none (by simp; omega)]
    unfold RowX
    rw [← this]
    exact sa
  · obtain ⟨i, h0, h1, q1, q2⟩ := key j hj
    rw [ec, q1]
    simp only [Option.getD_some, RK.natOf]
    omega
/-- a square as a table -/
theorem dp_tab {K : PySem.W.Frag} {H : Hp} {d : PyData} {v : V} {n : Nat} (h : Dp K H v d) (e : RK.squareB n d = true) : ∃ a, v = .ref a ∧ TabX K H a n (RK.tabf d) ∧ ∀ i j, i < n → j < n → RK.tabf d i j < n := by
  obtain ⟨ds, e1, e2, e3⟩ := squareB_rows e
  obtain ⟨a, xs, rfl, sa, da⟩ := dp_row h e1
  have ec : RK.cellsOf d = ds := by unfold RK.cellsOf; rw [e1]; rfl
  have key : ∀ i (hi : i < n), ∃ r, xs[i]? = some (.ref r) ∧ RowX K H r n (RK.tabf d i) ∧ ∀ j, j < n → RK.tabf d i j < n := fun i hi => by
    have ix : i < xs.length := by rw [dpAll_len da, e2]; exact hi
    obtain ⟨d', q1, q2⟩ := dpAll_get da (List.getElem?_eq_getElem ix)
    obtain ⟨r, er, R, b⟩ := dp_side q2 (e3 d' (List.mem_of_getElem? q1))
    have tf : RK.tabf d i = fun j => RK.natOf ((RK.cellsOf d')[j]?.getD .none) := by
      funext j
      unfold RK.tabf
      rw [ec, q1]; rfl
    exact ⟨r, by rw [List.getElem?_eq_getElem ix, er], by rw [tf]; exact R, fun j hj => by rw [tf]; exact b j hj⟩
  obtain ⟨rs, ers⟩ : ∃ rs : List Addr, xs = rs.map V.ref := by
    have all : ∀ y ∈ xs, ∃ r, y = V.ref r := fun y m => by
      obtain ⟨i, hi⟩ := List.getElem?_of_mem m
      have : i < n := by have := (List.getElem?_eq_some_iff.mp hi).1; rw [dpAll_len da, e2] at this; exact this
      obtain ⟨r, er, _⟩ := key i this
      rw [er] at hi; cases hi; exact ⟨r, rfl⟩
    clear sa da key
    induction xs with
    | nil => exact ⟨[], rfl⟩
    | cons y ys ih =>
      obtain ⟨r, rfl⟩ := all y (List.mem_cons_self ..)
      obtain ⟨rs, rfl⟩ := ih fun z m => all z (List.mem_cons_of_mem _ m)
      exact ⟨r :: rs, rfl⟩
  subst ers
  have len := dpAll_len da
  rw [List.length_map, e2] at len
  refine ⟨a, rfl, ⟨rs, len, sa, fun i r hr => ?_⟩, fun i j hi hj => ?_⟩
  · have hi : i < n := by have := (List.getElem?_eq_some_iff.mp hr).1; omega
    obtain ⟨r', q, R, _⟩ := key i hi
    rw [List.getElem?_map, hr] at q
    cases q
    exact R
  · obtain ⟨r', q, R, b⟩ := key i hi
    exact b j hj
theorem rows_dp {K : PySem.W.Frag} {H : Hp} {r : Addr} {n : Nat} {g : Nat → Nat} (h : RowX K H r n g) (b : ∀ j, j < n → g j < n) : ∃ d, Dp K H (.ref r) d ∧ RK.sideB n d = true ∧ ∀ j, j < n → RK.natOf ((RK.cellsOf d)[j]?.getD .none) = g j := by
  have all : ∀ m : Nat, DpAll K H ((List.range m).map fun j => V.int (g j : Nat)) ((List.range m).map fun j => PyData.int (g j : Nat)) := fun m => by
    have : ∀ l : List Nat, DpAll K H (l.map fun j => V.int (g j : Nat)) (l.map fun j => PyData.int (g j : Nat)) := fun l => by
      induction l with
      | nil => exact .nil
      | cons x l ih => exact .cons (.int _) ih
    exact this _
  have sb : (decide (((List.range n).map fun j => PyData.int (g j : Nat)).length = n) && ((List.range n).map fun j => PyData.int (g j : Nat)).all (RK.belowB n)) = true := by
    rw [Bool.and_eq_true, decide_eq_true_eq, List.all_eq_true]
    refine ⟨by simp, fun x m => ?_⟩
    obtain ⟨j, mj, rfl⟩ := List.mem_map.mp m
    have := b j (List.mem_range.mp mj)
    exact decide_eq_true (by omega)
  have val : ∀ j, j < n → RK.natOf ((((List.range n).map fun j => PyData.int (g j : Nat))[j]?).getD .none) = g j := fun j hj => by
    rw [List.getElem?_map, List.getElem?_range hj]
    simp [RK.natOf]
  rcases h with h | h
  · exact ⟨_, .lst h (all n), by unfold RK.sideB; exact sb, val⟩
  · exact ⟨_, .tup h (all n), by unfold RK.sideB; exact sb, val⟩
theorem tab_dp {K : PySem.W.Frag} {H : Hp} {a : Addr} {n : Nat} {f : Nat → Nat → Nat} (h : TabX K H a n f) (b : ∀ i j, i < n → j < n → f i j < n) : ∃ d, Dp K H (.ref a) d ∧ RK.squareB n d = true ∧ (∀ i j, i < n → j < n → RK.tabf d i j = f i j) ∧ ∃ ds, RK.rowsOf d = some ds ∧ ds.length = n := by
  obtain ⟨rs, len, sa, rows⟩ := h
  have each : ∀ (i : Nat) (r : Addr), rs[i]? = some r → ∃ d, Dp K H (.ref r) d ∧ RK.sideB n d = true ∧ ∀ j, j < n → RK.natOf ((RK.cellsOf d)[j]?.getD .none) = f i j := fun i r hr => by
    have hi : i < n := by have := (List.getElem?_eq_some_iff.mp hr).1; omega
    exact rows_dp (rows i r hr) fun j hj => b i j hi hj
  obtain ⟨ds, all, dl, prop⟩ : ∃ ds, DpAll K H (rs.map V.ref) ds ∧ ds.length = n ∧ ∀ (i : Nat) (d : PyData), ds[i]? = some d → RK.sideB n d = true ∧ ∀ j, j < n → RK.natOf ((RK.cellsOf d)[j]?.getD .none) = f i j := by
    have gen : ∀ (ts : List Addr) (k : Nat), (∀ (i : Nat) (r : Addr), ts[i]? = some r → ∃ d, Dp K H (.ref r) d ∧ RK.sideB n d = true ∧ ∀ j, j < n → RK.natOf ((RK.cellsOf d)[j]?.getD .none) = f (k + i) j) →
        ∃ ds, DpAll K H (ts.map V.ref) ds ∧ ds.length = ts.length ∧ ∀ (i : Nat) (d : PyData), ds[i]? = some d → RK.sideB n d = true ∧ ∀ j, j < n → RK.natOf ((RK.cellsOf d)[j]?.getD .none) = f (k + i) j := by
      intro ts
      induction ts with
      | nil => intro k _; exact ⟨[], .nil, rfl, fun i d e => by simp at e⟩
      | cons t ts ih =>
        intro k h
        obtain ⟨d, h1, h2⟩ := h 0 t rfl
        obtain ⟨ds, q1, q2, q3⟩ := ih (k + 1) fun i r hr => by
          have := h (i + 1) r (by simpa using hr)
          rwa [show k + (i + 1) = k + 1 + i from by omega] at this
        refine ⟨d :: ds, .cons h1 q1, by rw [List.length_cons, List.length_cons, q2], fun i d' e => ?_⟩
        cases i with
        | zero => simp at e; subst e; exact h2
        | succ i =>
          have := q3 i d' (by simpa using e)
          rwa [show k + 1 + i = k + (i + 1) from by omega] at this
    obtain ⟨ds, q1, q2, q3⟩ := gen rs 0 (by simpa using each)
    exact ⟨ds, q1, by rw [q2, len], by simpa using q3⟩
  have sb : (decide (ds.length = n) && ds.all (RK.sideB n)) = true := by
    rw [Bool.and_eq_true, decide_eq_true_eq, List.all_eq_true]
    refine ⟨dl, fun x m => ?_⟩
    obtain ⟨i, hi⟩ := List.getElem?_of_mem m
    exact (prop i x hi).1
  have val : ∀ i j, i < n → j < n → RK.natOf ((RK.cellsOf ((ds[i]?).getD .none))[j]?.getD .none) = f i j := fun i j hi hj => by
    have il : i < ds.length := by omega
    rw [List.getElem?_eq_getElem il, Option.getD_some]
    exact (prop i _ (List.getElem?_eq_getElem il)).2 j hj
  rcases sa with sa | sa
  · exact ⟨_, .lst sa all, by unfold RK.squareB; exact sb, val, ds, rfl, dl⟩
  · exact ⟨_, .tup sa all, by unfold RK.squareB; exact sb, val, ds, rfl, dl⟩
/-- the data of a thing, a dict among them -/
def Dq (K : PySem.W.Frag) (H : Hp) (v : V) (d : PyData) : Prop := Dp K H v d ∨ (d = .dict [] ∧ ∃ a kvs, v = .ref a ∧ H a = some (.dK kvs))
theorem Dq.same {K : PySem.W.Frag} {H H' : Hp} {v : V} {d : PyData} (h : Dq K H v d) (s : Same H H') : Dq K H' v d := by
  rcases h with h | ⟨e, a, kvs, h1, h2⟩
  · exact .inl (Dp.same s d v h)
  · exact .inr ⟨e, a, kvs, h1, s _ _ h2⟩
theorem Dq.dp {K : PySem.W.Frag} {H : Hp} {v : V} {d : PyData} {ds : List PyData} (h : Dq K H v d) (e : RK.rowsOf d = some ds) : Dp K H v d := by
  rcases h with h | ⟨rfl, _⟩
  · exact h
  · cases e
theorem dq_isRow {K : PySem.W.Frag} {H : Hp} {d : PyData} {v : V} (h : Dq K H v d) : ∃ t, TyX K H v t ∧ PySem.W.kitAny K t [.type "list", .type "tuple"] = some (RK.rowsOf d).isSome := by
  rcases h with h | ⟨rfl, a, kvs, rfl, h2⟩
  · exact dp_isRow h
  · refine ⟨.type "dict", .base (.dK h2), ?_⟩
    unfold PySem.W.kitAny
    rw [kit_ty (r := false) (by decide +kernel)]
    unfold PySem.W.kitAny
    rw [kit_ty (r := false) (by decide +kernel)]
    rfl
theorem dq_tab {K : PySem.W.Frag} {H : Hp} {d : PyData} {v : V} {n : Nat} (h : Dq K H v d) (e : RK.squareB n d = true) : ∃ a, v = .ref a ∧ TabX K H a n (RK.tabf d) ∧ ∀ i j, i < n → j < n → RK.tabf d i j < n := by
  obtain ⟨ds, e1, _⟩ := squareB_rows e
  exact dp_tab (h.dp e1) e
theorem d_seqFld {K : PySem.W.Frag} {σ : L2.St} {H : Hp} {R : It → Hp → Prop} {n : Nat} {x C dx pt : Addr} {fs : List (Str × V)} {f : Str} {xs : List V} (ev : σ[n]? = some (some (.ref x))) (ex : H x = some (.ins C dx fs)) (cl : Cls K C) (na : NoAttr K C f) (lk : fs.lookup f = some (.ref pt)) (h : SeqAt K H pt xs)
    (k : ∀ J G, Walk J xs.length G (YAt xs) → (∀ H', Same H H' → G H') → R J H) : iOr (iList K (tFld K (tVar n) f)) (iTup K (tFld K (tVar n) f)) σ H R := by
  rcases h with h | h
  · exact .inl (RD.d_iList (RD.d_fld (RD.d_var ev ⟨x, C, dx, fs, _, rfl, ex, cl, na, lk, pt, rfl, ⟨xs, h⟩, k _ _ walk_list fun H' s => s.seq h⟩)))
  · exact .inr (RD.d_fld (RD.d_var ev ⟨x, C, dx, fs, _, rfl, ex, cl, na, lk, pt, rfl, ⟨xs, h⟩, k _ _ walk_tup fun H' s => sqT_same h s⟩))
end OQ
namespace RD
open PySem L2
/-- a list of two taken apart by two names -/
theorem d_twoL {K : PySem.W.Frag} {n i j : Nat} {a : Addr} {x y : V} {σ : L2.St} {H : Hp} {R : L2.St → Hp → Prop} (en : n = 2) (e : SqL K H a [x, y]) (k : R ((σ.set i (some x)).set j (some y)) H) :
    gLst K n (gCons (gName i) (gCons (gName j) gNil)) (.ref a) σ H R := ⟨a, [x, y], rfl, e, en.symm, x, [y], rfl, y, [], rfl, rfl, k⟩
end RD
namespace OQ
open PySem L2 PySem.Spec PyProof.Rows
def rListK (K : PySem.W.Frag) : List V → Hp → VK → Prop := fun xs H Q => ∃ p ys, xs = [.ref p] ∧ SeqAt K H p ys ∧ ∀ l, H l = none → Q (.ref l) (upd H l (.lst ys))
theorem listK {X : Cx} (K : PySem.W.Frag) (h : X.K = K := by rfl) : CallR X (.type "list") (rListK K) := h ▸ call_list_of
theorem dpAll_ofP {K : PySem.W.Frag} {H : Hp} {P : Nat → PyData → Prop} : ∀ {vs : List V} {k : Nat}, (∀ i v, vs[i]? = some v → ∃ d, Dp K H v d ∧ P (k + i) d) → ∃ ds, DpAll K H vs ds ∧ ∀ i d, ds[i]? = some d → P (k + i) d
  | [], _, _ => ⟨[], .nil, fun i d e => by simp at e⟩
  | v :: vs, k, h => by
    obtain ⟨d, h1, h2⟩ := h 0 v rfl
    obtain ⟨ds, q1, q2⟩ := dpAll_ofP (vs := vs) (k := k + 1) fun i x e => by
      have := h (i + 1) x (by simpa using e)
      rwa [show k + (i + 1) = k + 1 + i from by omega] at this
    refine ⟨d :: ds, .cons h1 q1, fun i d' e => ?_⟩
    cases i with
    | zero => simp at e; subst e; exact h2
    | succ i =>
      have := q2 i d' (by simpa using e)
      rwa [show k + 1 + i = k + (i + 1) from by omega] at this
end OQ

/-! ### rising rows with the same things are the same -/
namespace WW
open PySem L2
theorem asc_uniq : ∀ {p q : List Nat}, p.Pairwise (· < ·) → q.Pairwise (· < ·) → (∀ v, v ∈ p ↔ v ∈ q) → p = q
  | [], [], _, _, _ => rfl
  | [], x :: q, _, _, h => absurd ((h x).mpr (List.mem_cons_self ..)) List.not_mem_nil
  | x :: p, [], _, _, h => absurd ((h x).mp (List.mem_cons_self ..)) List.not_mem_nil
  | x :: p, y :: q, hp, hq, h => by
    rw [List.pairwise_cons] at hp hq
    have e : x = y := by
      rcases List.mem_cons.mp ((h x).mp (List.mem_cons_self ..)) with a | a
      · exact a
      · rcases List.mem_cons.mp ((h y).mpr (List.mem_cons_self ..)) with b | b
        · exact b.symm
        · have := hq.1 x a; have := hp.1 y b; omega
    subst e
    rw [asc_uniq hp.2 hq.2 fun v => ?_]
    constructor
    · intro m
      rcases List.mem_cons.mp ((h v).mp (List.mem_cons_of_mem _ m)) with a | a
      · have := hp.1 v m; omega
      · exact a
    · intro m
      rcases List.mem_cons.mp ((h v).mpr (List.mem_cons_of_mem _ m)) with a | a
      · have := hq.1 v m; omega
      · exact a
end WW

/-! ### lone lengths: what steps of them reach -/
namespace LO
open WW (Rc Wk)
/-- a step of one of the lengths within 0 to L -/
def St (ls : List Nat) (L i j : Nat) : Prop := i ≤ L ∧ j ≤ L ∧ ∃ l ∈ ls, j = i + l ∨ i = j + l
def Rch (ls : List Nat) (L : Nat) : Prop := Rc (St ls L) 0 L
theorem St.symm {ls : List Nat} {L i j : Nat} (h : St ls L i j) : St ls L j i := by
  obtain ⟨h1, h2, l, m, e⟩ := h
  exact ⟨h2, h1, l, m, e.symm⟩
/-- x and x + d are joined wherever both are there -/
def Sh (ls : List Nat) (L d : Nat) : Prop := ∀ x, x + d ≤ L → Rc (St ls L) x (x + d)
theorem Sh.of {ls : List Nat} {L l : Nat} (m : l ∈ ls) : Sh ls L l := fun x h => Rc.one ⟨by omega, h, l, m, .inl rfl⟩
theorem Rc.sy {ls : List Nat} {L i j : Nat} (h : Rc (St ls L) i j) : Rc (St ls L) j i := Rc.symm (fun _ _ => St.symm) h
theorem Sh.zero {ls : List Nat} {L : Nat} : Sh ls L 0 := fun _ _ => Rc.refl
theorem Sh.sub {ls : List Nat} {L a b : Nat} (ha : Sh ls L a) (hb : Sh ls L b) (h : a ≤ b) (w : a + b ≤ L) : Sh ls L (b - a) := fun x hx => by
  by_cases c : x + b ≤ L
  · have h1 := hb x c
    have h2 := ha (x + (b - a)) (by omega)
    rw [show x + (b - a) + a = x + b by omega] at h2
    exact Rc.trans h1 (Rc.sy h2)
  · have h1 := ha (x - a) (by omega)
    rw [show x - a + a = x by omega] at h1
    have h2 := hb (x - a) (by omega)
    rw [show x - a + b = x + (b - a) by omega] at h2
    exact Rc.trans (Rc.sy h1) h2
theorem Sh.gcd {ls : List Nat} {L : Nat} : ∀ (n a b : Nat), a + b ≤ n → Sh ls L a → Sh ls L b → a + b ≤ L → Sh ls L (Nat.gcd a b)
  | 0, a, b, h, ha, _, _ => by
    obtain rfl : a = 0 := by omega
    obtain rfl : b = 0 := by omega
    exact ha
  | n + 1, a, b, h, ha, hb, w => by
    by_cases a0 : a = 0
    · subst a0; rw [Nat.gcd_zero_left]; exact hb
    by_cases b0 : b = 0
    · subst b0; rw [Nat.gcd_zero_right]; exact ha
    by_cases c : a ≤ b
    · have := Sh.gcd n a (b - a) (by omega) ha (ha.sub hb c w) (by omega)
      rw [show Nat.gcd a (b - a) = Nat.gcd a b by rw [Nat.gcd_sub_self_right c]] at this
      exact this
    · have := Sh.gcd n (a - b) b (by omega) (hb.sub ha (by omega) (by omega)) hb (by omega)
      rw [show Nat.gcd (a - b) b = Nat.gcd a b by rw [Nat.gcd_sub_self_left (by omega)]] at this
      exact this
def gcdL (ls : List Nat) : Nat := ls.foldl Nat.gcd 0
theorem Sh.fold {ls : List Nat} {L : Nat} : ∀ (rs : List Nat) (g : Nat), (∀ r ∈ rs, r ∈ ls) → rs.Pairwise (fun x y => x + y ≤ L) → (∀ r ∈ rs, g + r ≤ L) → Sh ls L g → Sh ls L (rs.foldl Nat.gcd g)
  | [], _, _, _, _, h => h
  | r :: rs, g, m, p, b, h => by
    have hr := b r (List.mem_cons_self ..)
    have h2 := Sh.gcd (g + r) g r (Nat.le_refl _) h (Sh.of (m r (List.mem_cons_self ..))) hr
    refine Sh.fold rs (Nat.gcd g r) (fun q z => m q (List.mem_cons_of_mem _ z)) (List.pairwise_cons.mp p).2 (fun q z => ?_) h2
    by_cases g0 : g = 0
    · subst g0; rw [Nat.gcd_zero_left]; exact (List.pairwise_cons.mp p).1 q z
    · have := Nat.gcd_le_left r (Nat.pos_of_ne_zero g0)
      have := b q (List.mem_cons_of_mem _ z)
      omega
theorem Sh.mul {ls : List Nat} {L g : Nat} (h : Sh ls L g) : ∀ k, k * g ≤ L → Rc (St ls L) 0 (k * g)
  | 0, _ => by rw [Nat.zero_mul]; exact Rc.refl
  | k + 1, hk => by
    rw [Nat.succ_mul] at hk ⊢
    exact Rc.trans (Sh.mul h k (by omega)) (h (k * g) hk)
theorem fold_dvd : ∀ (rs : List Nat) (g : Nat), rs.foldl Nat.gcd g ∣ g ∧ ∀ r ∈ rs, rs.foldl Nat.gcd g ∣ r
  | [], g => ⟨Nat.dvd_refl _, fun _ m => nomatch m⟩
  | r :: rs, g => by
    obtain ⟨h1, h2⟩ := fold_dvd rs (Nat.gcd g r)
    refine ⟨Nat.dvd_trans h1 (Nat.gcd_dvd_left ..), fun q m => ?_⟩
    rcases List.mem_cons.mp m with rfl | m
    · exact Nat.dvd_trans h1 (Nat.gcd_dvd_right ..)
    · exact h2 q m
theorem St.dvd {ls : List Nat} {L i j : Nat} (h : St ls L i j) (d : gcdL ls ∣ i) : gcdL ls ∣ j := by
  obtain ⟨_, _, l, m, e | e⟩ := h
  · rw [e]; exact Nat.dvd_add d ((fold_dvd ls 0).2 l m)
  · rw [e] at d
    exact (Nat.dvd_add_left ((fold_dvd ls 0).2 l m)).mp d
theorem Wk.dvd {ls : List Nat} {L : Nat} : ∀ (r j : Nat), Wk (St ls L) 0 r j → gcdL ls ∣ j
  | 0, j, h => by rw [show j = 0 from h]; exact Nat.dvd_zero _
  | r + 1, j, h => by
    obtain ⟨u, h1, h2⟩ := h
    exact St.dvd h2 (Wk.dvd r u h1)
theorem Rch.dvd {ls : List Nat} {L : Nat} (h : Rch ls L) : gcdL ls ∣ L := by
  obtain ⟨r, h⟩ := h
  exact Wk.dvd r _ h
theorem rch_big {ls : List Nat} {L : Nat} (p : ls.Pairwise (fun x y => x + y ≤ L)) (b : ∀ l ∈ ls, l ≤ L) : Rch ls L ↔ gcdL ls ∣ L := by
  refine ⟨Rch.dvd, fun ⟨k, e⟩ => ?_⟩
  have h := Sh.fold ls 0 (fun _ m => m) p (fun r m => by have := b r m; omega) (Sh.zero (ls := ls) (L := L))
  have := h.mul k (by rw [Nat.mul_comm]; exact Nat.le_of_eq e.symm)
  rw [Nat.mul_comm, show ls.foldl Nat.gcd 0 * k = L from e.symm] at this
  exact this
/-- the two last ones of a row in order -/
theorem pair_sum {s : List Nat} (so : s.Pairwise (· ≤ ·)) : s.Pairwise (fun x y => x + y ≤ (s.drop (s.length - 2)).sum) ∧ ∀ x ∈ s, x ≤ (s.drop (s.length - 2)).sum := by
  match s, so with
  | [], _ => exact ⟨.nil, fun _ m => nomatch m⟩
  | [a], _ => exact ⟨List.pairwise_singleton .., fun x m => by rw [List.mem_singleton.mp m]; simp⟩
  | a :: b :: s, so =>
    have n2 : 2 ≤ (a :: b :: s).length := by simp
    generalize a :: b :: s = t at *
    have e : (t.drop (t.length - 2)).sum = t[t.length - 2]'(by omega) + t[t.length - 1]'(by omega) := by
      rw [List.drop_eq_getElem_cons (by omega), show t.length - 2 + 1 = t.length - 1 by omega, List.drop_eq_getElem_cons (by omega), show t.length - 1 + 1 = t.length by omega, List.drop_length]
      simp
    rw [e]
    have le : ∀ i j (hi : i < t.length) (hj : j < t.length), i ≤ j → t[i] ≤ t[j] := fun i j hi hj h => by
      by_cases c : i = j
      · subst c; exact Nat.le_refl _
      · exact List.pairwise_iff_getElem.mp so i j hi hj (by omega)
    refine ⟨List.pairwise_iff_getElem.mpr fun i j hi hj h => Nat.add_le_add (le i _ hi (by omega) (by omega)) (le j _ hj (by omega) (by omega)), fun x m => ?_⟩
    obtain ⟨i, hi, rfl⟩ := List.getElem_of_mem m
    have := le i (t.length - 1) hi (by omega) (by omega)
    omega
theorem top_sum {ls s : List Nat} (so : s.Pairwise (· ≤ ·)) (p : s.Perm ls) {L : Nat} (h : (s.drop (s.length - 2)).sum ≤ L) : Rch ls L ↔ gcdL ls ∣ L := by
  obtain ⟨h1, h2⟩ := pair_sum so
  refine rch_big ?_ fun l m => Nat.le_trans (h2 l (p.mem_iff.mpr m)) h
  refine (p.pairwise_iff (fun {x y} (q : x + y ≤ L) => by omega)).mp (h1.imp fun q => Nat.le_trans q h)
end LO

/-! ### a text many times; the numbers of a tuple put in order -/
namespace OQ
open PySem L2 PySem.Spec PyProof.Rows
theorem rep_fold (xs : Array Nat) : ∀ (n : Nat) (acc : Array Nat), ((List.replicate n xs).foldl (· ++ ·) acc) = acc ++ (List.replicate n xs.toList).flatten.toArray
  | 0, acc => by simp
  | n + 1, acc => by
    rw [List.replicate_succ, List.foldl_cons, rep_fold xs n, List.replicate_succ, List.flatten_cons]
    apply Array.ext'
    simp
def rMulS : R2 := fun x y H Q => ∃ (l : WW.Wd) (k : Int), x = .str (WW.S l) ∧ y = .int k ∧ 1 ≤ k ∧ k ≤ 1000 ∧ l.length ≤ 1000 ∧ Q (.str (WW.S (List.replicate k.toNat l).flatten)) H
theorem o_mulS {X : Cx} : OpR X (binaryOp .Mult) rMulS := by
  rintro pins s σ H x y v u Q I rx ry ⟨l, k, rfl, rfl, k1, k2, hl, q⟩
  obtain ⟨t, rfl⟩ := rx
  obtain ⟨t', rfl⟩ := ry
  have n1 : ¬ k < 1 := by omega
  have sz : (WW.S l).length * k.toNat ≤ 1000 * 1000 := Nat.mul_le_mul (by rw [WW.S_len]; exact hl) (by omega)
  refine P.mul_str (by simp; omega) (fun _ _ => ?_) (fun _ _ => ?_) ?_
  · have : (1000 : Int) ≤ (2 ^ 63 - 1) / k := Int.le_ediv_of_mul_le (by omega) (by omega)
    have l2 : ((WW.S l).length : Int) ≤ 1000 := by rw [WW.S_len]; omega
    omega
  · show decide (_ > sizeLine) = false
    rw [decide_eq_false_iff_not]
    have : 1000 * 1000 ≤ sizeLine := by decide
    omega
  · rw [if_neg n1]
    by_cases c : (k == 1 || (WW.S l).length == 0) = true
    · rw [if_pos c]
      have e : (List.replicate k.toNat l).flatten = l := by
        rcases Bool.or_eq_true _ _ ▸ c with c | c
        · have : k = 1 := by simpa using c
          subst this; simp
        · have : l = [] := by rw [WW.S_len] at c; simpa using c
          subst this; simp
      rw [e] at q
      exact ⟨.str (WW.S l), H, I, ⟨t, rfl⟩, q⟩
    · rw [if_neg c]
      have e : (List.replicate k.toNat (WW.S l).cps).foldl (· ++ ·) #[] = (List.replicate k.toNat l).flatten.toArray := by
        rw [rep_fold, WW.S_cps]; simp
      rw [e]
      refine ⟨?_, .str (WW.S (List.replicate k.toNat l).flatten), H, I.tok _, ⟨_, rfl⟩, q⟩
      show (List.replicate k.toNat l).flatten.toArray.size ≤ sizeLine
      have : 1000 * 1000 ≤ sizeLine := by decide
      rw [WW.S_len] at sz
      have lf : (List.replicate k.toNat l).flatten.length = k.toNat * l.length := by simp
      rw [List.size_toArray, lf, Nat.mul_comm]
      omega
/-- sorted(t), a tuple of ints -/
def rSortedTI (K : PySem.W.Frag) : List V → Hp → VK → Prop := fun vs H Q => ∃ (a : Addr) (ns : List Int), vs = [V.ref a] ∧ SqT K H a (ns.map V.int) ∧ ∀ (ms : List Int) (p : Addr), ms.Perm ns → ms.Pairwise (· ≤ ·) → H p = none → Q (.ref p) (upd H p (.lst (ms.map V.int)))
theorem cr_sortedT {X : Cx} : CallR X (.builtin "sorted") (rSortedTI X.K) := by
  rintro pins s σ H vs us Q I r ⟨a, ns, rfl, hs, q⟩
  obtain ⟨its, rv, ⟨oT, hT, cT, nT, dT⟩, hz⟩ := I.tuple hs
  rw [Vals.ref1 r]
  have hi := rv.ints
  have lz : its.length ≤ sizeLine := by rw [← rv.length]; exact hz
  refine Calls.call_function_entry kind_sorted plain_sorted entry_sorted (args_sorted1 _) ?_
  unfold Builtin.«sorted»
  refine wpAny_bind (m := checkCount "sorted" 1 1 _) (wpAny_pure (wpAny_bind (wpAny_collect_seq a (.inr rfl) hT cT dT (fun G old => ?_) lz)))
  show wpAny _ _ (newList its >>= _) _ _ _
  refine wpAny_bind (wpAny_newList ?_ lz)
  have there : (G.push { cls := .type "list", data := .seq its.toArray }).get? G.objs.size = some (seqObj "list" its.toArray 0) := Heap.get?_push_size _ rfl
  have none0 : s.heap.get? G.objs.size = none := by
    cases e : s.heap.get? G.objs.size with
    | none => rfl
    | some u => exact absurd (Heap.lt_size (old _ _ e)) (Nat.lt_irrefl _)
  refine wpAny_bind (wpAny_holding (wpAny_call_entry slot_list_sort ⟨_, there, rfl⟩ entry_list_sort (SrtO.list_sort_ord SrtO.swo_int there lz (fun two => SrtO.ints_sortable hi two) fun out up st => ⟨_, rfl, wpAny_pure ⟨_, rfl, ?_⟩⟩) (args_list_sort _)))
  obtain ⟨g1, g2, g3⟩ := SrtO.ints_out hi up st
  obtain ⟨ep, at'⟩ := PyProof.Rows.sortedHeap_at (out := out.toArray) there
  have fit : ((out.map SrtO.iv).map V.int).length ≤ sizeLine := by
    rw [List.length_map, g2.length_eq]
    rw [List.length_map] at hz
    exact hz
  have gone := I.hok.gone none0
  refine ⟨.ref _, upd H G.objs.size (.lst ((out.map SrtO.iv).map V.int)), I.laidN (t' := s.toks) (fun b o e => ?_) none0 gone ⟨fit, out, ep, vals_of_ints g1, at'⟩, rfl, q _ _ g2 g3 gone⟩
  have eG := old b o e
  have lt := Heap.lt_size eG
  rw [PyProof.Rows.sortedHeap_old (Nat.ne_of_lt lt) (by rw [size_push']; exact Nat.lt_succ_of_lt lt)]
  exact Heap.get?_push_of_some _ eG
end OQ
namespace OQ
open PySem L2
theorem cr_orC {X : Cx} {f : Value} {r r' : List V → Hp → VK → Prop} (h : CallR X f r) (k : CallR X f r') : CallR X f (fun vs H Q => r vs H Q ∨ r' vs H Q) := fun pins s σ H vs us Q I e z =>
  z.elim (fun z => h pins s σ H vs us Q I e z) fun z => k pins s σ H vs us Q I e z
end OQ

/-! ### a range of multiples -/
namespace OQ
open PySem L2
/-- range(g, top, g): the k-th is g + k * g -/
theorem rgc_mul {g top : Nat} (g1 : 1 ≤ g) (g2 : g ≤ 1000) (t2 : top ≤ 1000) : ∃ n : Nat, RgC (g : Int) (top : Int) (g : Int) n ∧ n ≤ 1000 ∧ ∀ k : Nat, k < n ↔ g + k * g < top := by
  have sz : Builtin.Range.rangeSize (g : Int) top g = if (g : Int) < top then ((top : Int) - g - 1) / g + 1 else 0 := by
    unfold Builtin.Range.rangeSize
    rw [if_pos (by omega)]
  by_cases c : (g : Int) < top
  · rw [if_pos c] at sz
    have q0 : (0 : Int) ≤ ((top : Int) - g - 1) / g := Int.ediv_nonneg (by omega) (by omega)
    have q1 : ((top : Int) - g - 1) / g ≤ (top : Int) - g - 1 := Int.ediv_le_self _ (by omega)
    refine ⟨(((top : Int) - g - 1) / g + 1).toNat, ⟨by omega, by omega, ?_, by rw [sz, Int.toNat_of_nonneg (by omega)]⟩, by omega, fun k => ?_⟩
    · unfold Builtin.Range.small
      rw [sz]
      have m := Int.ediv_mul_le ((top : Int) - g - 1) (by omega : (g : Int) ≠ 0)
      have e : (((top : Int) - g - 1) / g + 1) * g = ((top : Int) - g - 1) / g * g + g := by rw [Int.add_mul, Int.one_mul]
      simp only [Builtin.Range.rangeFitsLong, Bool.and_eq_true, Bool.or_eq_true, decide_eq_true_eq, beq_iff_eq]
      generalize ((top : Int) - g - 1) / g = q at *
      rw [if_pos (by omega), Bool.and_eq_true, decide_eq_true_eq, decide_eq_true_eq]
      omega
    · have h : (k : Int) ≤ ((top : Int) - g - 1) / g ↔ (k : Int) * g ≤ (top : Int) - g - 1 := Int.le_ediv_iff_mul_le (by omega)
      have e : ((k * g : Nat) : Int) = (k : Int) * g := by push_cast; rfl
      constructor
      · intro hk
        have := h.mp (by omega)
        omega
      · intro hk
        have := h.mpr (by omega)
        omega
  · rw [if_neg c] at sz
    refine ⟨0, ⟨by omega, by omega, ?_, sz⟩, by omega, fun k => ⟨fun z => by omega, fun z => by have := Nat.zero_le (k * g); omega⟩⟩
    unfold Builtin.Range.small
    rw [sz]
    simp only [Builtin.Range.rangeFitsLong, Bool.and_eq_true, Bool.or_eq_true, decide_eq_true_eq, beq_iff_eq]
    rw [if_pos (by omega), Bool.and_eq_true, decide_eq_true_eq, decide_eq_true_eq]
    omega
end OQ

/-! ### a call whose receiver is of one of two classes -/
namespace OQ
open PySem L2 PySem.Spec PyProof.Rows
def tOrE (t u : TE) : TE := fun σ H Q => t σ H Q ∨ u σ H Q
theorem pe_orE {X : Cx} {e : Expr} {t u : TE} (h : PE X e t) (k : PE X e u) : PE X e (tOrE t u) := ⟨fun pins s σ H Q I z => z.elim (fun z => h.run pins s σ H Q I z) fun z => k.run pins s σ H Q I z⟩
end OQ

/-! ### two tuples whose items are the same, or lists of the same flags and numbers -/
namespace OQ
open PySem L2 PySem.Spec PyProof.Rows
def EqL (K : PySem.W.Frag) (H : Hp) (x y : V) : Prop := (x = y ∧ SameIt x) ∨ ∃ a b xs, x = .ref a ∧ y = .ref b ∧ SqL K H a xs ∧ SqL K H b xs ∧ ∀ v ∈ xs, SameIt v
theorem its_eq {A : Around} {s : Shared} {xs : List V} {us ws : List Value} (h : ∀ v ∈ xs, SameIt v) (r1 : Vals xs us) (r2 : Vals xs ws) (j : Nat) (h1 : j < us.toArray.size) (h2 : j < ws.toArray.size) : SeqAt.EqAt A s us.toArray[j] ws.toArray[j] true := its_same h r1 r2 j h1 h2
theorem eqL_at {X : Cx} {pins : List (Addr × Obj)} {σ : L2.St} {H : Hp} {s : Shared} {A : Around} (I : Inv X pins σ H s) (hu : A.units < cLine) {x y : V} {u v : Value} (rx : RelV x u) (ry : RelV y v) (h : EqL X.K H x y) : SeqAt.EqAt A s u v true := by
  rcases h with ⟨rfl, it⟩ | ⟨a, b, xs, rfl, rfl, ha, hb, all⟩
  · exact eqAt_it it rx ry
  · cases rx
    cases ry
    by_cases e : a = b
    · subst e; exact SeqAt.EqAt.same _
    · obtain ⟨us, r1, p1, _⟩ := I.list ha
      obtain ⟨ws, r2, p2, _⟩ := I.list hb
      have sz : us.toArray.size = ws.toArray.size := by rw [List.size_toArray, List.size_toArray, ← r1.length, ← r2.length]
      have q := SeqAt.RcAt.lists (A := A) (e := fun _ => true) p1.isList p2.isList sz hu (fun j h1 h2 => its_eq all r1 r2 j h1 h2)
      rw [show ((List.range us.toArray.size).all fun _ => true) = true by simp] at q
      exact SeqAt.EqAt.of_refs e q
def rTupE (K : PySem.W.Frag) : R2 := fun x y H Q => ∃ a b x1 x2 y1 y2, x = .ref a ∧ y = .ref b ∧ SqT K H a [x1, x2] ∧ SqT K H b [y1, y2] ∧ EqL K H x1 y1 ∧ EqL K H x2 y2 ∧ Q (.bl false) H
theorem op_neTE {X : Cx} (hu : X.A.units + 64 < cLine) : OpR X (compareOp .NotEq) (rTupE X.K) := by
  rintro pins s σ H x y v u Q I rx ry ⟨a, b, x1, x2, y1, y2, rfl, rfl, ha, hb, h1, h2, q⟩
  cases rx
  cases ry
  obtain ⟨us, r1, p1, _⟩ := I.tuple ha
  obtain ⟨ws, r2, p2, _⟩ := I.tuple hb
  have hu0 : X.A.units < cLine := by omega
  have hu1 : X.A.in1.units < cLine := by
    show X.A.units + 1 < cLine
    omega
  cases r1 with
  | cons a1 r1 =>
  cases r1 with
  | cons a2 r1 =>
  cases r1
  cases r2 with
  | cons b1 r2 =>
  cases r2 with
  | cons b2 r2 =>
  cases r2
  have e := SeqAt.RcNeAt.tuples (A := X.A) (e := fun _ => true) p1 p2 hu0 (fun j g1 g2 => by
    match j, g1, g2 with
    | 0, _, _ => exact eqL_at I hu1 a1 b1 h1
    | 1, _, _ => exact eqL_at I hu1 a2 b2 h2)
  refine e X.prog X.w X.xe _ ?_
  exact ⟨.bl false, H, I, rfl, q⟩
end OQ

local macro_rules | `(tactic| walk_at "txN") => `(tactic| first | assumption | omega | (simp only [List.length_append, List.length_cons, List.length_nil, List.length_drop, List.length_take] at *; omega))
local macro_rules | `(tactic| walk_at "tx1") => `(tactic| first
  | (with_reducible refine RD.d_break ?_)
  | (with_reducible refine RD.d_eqW ?_)
  | (with_reducible refine RD.d_neW ?_)
  | ((with_reducible (refine' RD.d_lenW ?n ?k)); (case n => walk_at "txN"))
  | ((with_reducible (refine' RD.d_addS ?n ?k)); (case n => walk_at "txN")))
local macro_rules | `(tactic| walk_at "tx") => `(tactic| repeat (first | walk_at "tx1" | walk_at "rd1" | walk_at "rd2"))

namespace Toy
open PySem L2
def top (i : Nat) : Stmt := PySem.Challenge.pw_watchedways_k86_lone_gaps_and_refused.main.body.getD i (.Pass ⟨0, 0, 0, 0⟩)
abbrev s_WayError__init : Stmt := inClass (top 2) 0
theorem sc_WayError__init : FnScope ["self", "value"] ["self", "value"] (defScope s_WayError__init) := ⟨rfl, rfl, rfl, by decide +kernel, rfl, by decide +kernel, by decide +kernel⟩
abbrev s_is_integer : Stmt := top 6
theorem sc_is_integer : FnScope ["thing"] ["thing"] (defScope s_is_integer) := ⟨rfl, rfl, rfl, by decide +kernel, rfl, by decide +kernel, by decide +kernel⟩
abbrev s_is_row : Stmt := top 7
theorem sc_is_row : FnScope ["thing"] ["thing"] (defScope s_is_row) := ⟨rfl, rfl, rfl, by decide +kernel, rfl, by decide +kernel, by decide +kernel⟩
abbrev s_links_through : Stmt := top 9
theorem sc_links_through : FnScope ["pieces", "word", "links", "_", "piece", "low", "high", "spots"] ["pieces", "word"] (defScope s_links_through) := ⟨rfl, rfl, rfl, by decide +kernel, rfl, by decide +kernel, by decide +kernel⟩
abbrev s_leads_through : Stmt := top 10
theorem sc_leads_through : FnScope ["pieces", "word"] ["pieces", "word"] (defScope s_leads_through) := ⟨rfl, rfl, rfl, by decide +kernel, rfl, by decide +kernel, by decide +kernel⟩
abbrev s_steps_to : Stmt := top 11
theorem sc_steps_to : FnScope ["links", "goal", "steps", "ring", "farther", "spot", "mate"] ["links", "goal"] (defScope s_steps_to) := ⟨rfl, rfl, rfl, by decide +kernel, rfl, by decide +kernel, by decide +kernel⟩
abbrev s_lone_told : Stmt := top 16
theorem sc_lone_told : FnScope ["lengths", "last"] ["lengths", "last"] (defScope s_lone_told) := ⟨rfl, rfl, rfl, by decide +kernel, rfl, by decide +kernel, by decide +kernel⟩
abbrev s_lone_gaps : Stmt := top 17
theorem sc_lone_gaps : FnScope ["lengths", "shared", "last"] ["lengths"] (defScope s_lone_gaps) := ⟨rfl, rfl, rfl, by decide +kernel, rfl, by decide +kernel, by decide +kernel⟩
abbrev s_leads_to : Stmt := top 18
theorem sc_leads_to : FnScope ["lengths", "last", "length"] ["lengths", "last"] (defScope s_leads_to) := ⟨rfl, rfl, rfl, by decide +kernel, rfl, by decide +kernel, by decide +kernel⟩
abbrev s_shared_divisor : Stmt := top 19
theorem sc_shared_divisor : FnScope ["lengths", "shared", "length"] ["lengths"] (defScope s_shared_divisor) := ⟨rfl, rfl, rfl, by decide +kernel, rfl, by decide +kernel, by decide +kernel⟩
abbrev s_all_told_from : Stmt := top 20
theorem sc_all_told_from : FnScope ["lengths"] ["lengths"] (defScope s_all_told_from) := ⟨rfl, rfl, rfl, by decide +kernel, rfl, by decide +kernel, by decide +kernel⟩
abbrev s_check_lengths : Stmt := top 21
theorem sc_check_lengths : FnScope ["lengths", "at", "length"] ["lengths"] (defScope s_check_lengths) := ⟨rfl, rfl, rfl, by decide +kernel, rfl, by decide +kernel, by decide +kernel⟩
abbrev s_law_tape : Stmt := top 23
theorem sc_law_tape : FnScope ["script"] ["script"] (defScope s_law_tape) := ⟨rfl, rfl, rfl, by decide +kernel, rfl, by decide +kernel, by decide +kernel⟩
abbrev s_law_pick : Stmt := top 24
theorem sc_law_pick : FnScope ["tape", "size", "digit", "cell", "mixed"] ["tape", "size"] (defScope s_law_pick) := ⟨rfl, rfl, rfl, by decide +kernel, rfl, by decide +kernel, by decide +kernel⟩
abbrev s_law_odd : Stmt := top 25
theorem sc_law_odd : FnScope ["tape", "things"] ["tape"] (defScope s_law_odd) := ⟨rfl, rfl, rfl, by decide +kernel, rfl, by decide +kernel, by decide +kernel⟩
abbrev s_law_is_word : Stmt := top 26
theorem sc_law_is_word : FnScope ["thing", "most", "letter"] ["thing", "most"] (defScope s_law_is_word) := ⟨rfl, rfl, rfl, by decide +kernel, rfl, by decide +kernel, by decide +kernel⟩
abbrev s_law_common : Stmt := top 27
theorem sc_law_common : FnScope ["one", "other", "turn", "rest"] ["one", "other"] (defScope s_law_common) := ⟨rfl, rfl, rfl, by decide +kernel, rfl, by decide +kernel, by decide +kernel⟩
abbrev s_law_divisor : Stmt := top 28
theorem sc_law_divisor : FnScope ["lengths", "part", "length"] ["lengths"] (defScope s_law_divisor) := ⟨rfl, rfl, rfl, by decide +kernel, rfl, by decide +kernel, by decide +kernel⟩
abbrev s_law_reach : Stmt := top 29
theorem sc_law_reach : FnScope ["lengths", "last", "reached", "met", "at", "length", "other"] ["lengths", "last"] (defScope s_law_reach) := ⟨rfl, rfl, rfl, by decide +kernel, rfl, by decide +kernel, by decide +kernel⟩
abbrev s_law_lengths : Stmt := top 30
theorem sc_law_lengths : FnScope ["tape", "kind", "most", "part", "lengths", "k"] ["tape"] (defScope s_law_lengths) := ⟨rfl, rfl, rfl, by decide +kernel, rfl, by decide +kernel, by decide +kernel⟩
abbrev s_law_asked : Stmt := top 31
theorem sc_law_asked : FnScope ["kind", "lengths", "last", "found", "e"] ["kind", "lengths", "last"] (defScope s_law_asked) := ⟨rfl, rfl, rfl, by decide +kernel, rfl, by decide +kernel, by decide +kernel⟩
abbrev s_law_is_number : Stmt := top 32
theorem sc_law_is_number : FnScope ["thing", "most"] ["thing", "most"] (defScope s_law_is_number) := ⟨rfl, rfl, rfl, by decide +kernel, rfl, by decide +kernel, by decide +kernel⟩
abbrev s_law_due : Stmt := top 33
theorem sc_law_due : FnScope ["kind", "lengths", "last", "at"] ["kind", "lengths", "last"] (defScope s_law_due) := ⟨rfl, rfl, rfl, by decide +kernel, rfl, by decide +kernel, by decide +kernel⟩
abbrev s_law_bent : Stmt := top 34
theorem sc_law_bent : FnScope ["tape", "lengths", "kind", "at", "wrong"] ["tape", "lengths"] (defScope s_law_bent) := ⟨rfl, rfl, rfl, by decide +kernel, rfl, by decide +kernel, by decide +kernel⟩
abbrev s_law : Stmt := top 35
theorem sc_law : FnScope ["script", "tape", "lengths", "part", "due", "two", "last", "told", "turn", "bent", "kind", "wanted", "found"] ["script"] (defScope s_law) := ⟨rfl, rfl, rfl, by decide +kernel, rfl, by decide +kernel, by decide +kernel⟩
structure Top (K : PySem.W.Frag) (mg : Str → Option Value) where
  f_WayError__init : Addr
  fd_WayError__init : FuncData
  F_WayError__init : Fun K "__init__" "WayError.__init__" s_WayError__init f_WayError__init fd_WayError__init
  b_WayError__init : Binds K fd_WayError__init ["self", "value"] []
  f_is_integer : Addr
  fd_is_integer : FuncData
  F_is_integer : Fun K "is_integer" "is_integer" s_is_integer f_is_integer fd_is_integer
  b_is_integer : Binds K fd_is_integer ["thing"] []
  g_is_integer : mg "is_integer" = some (.ref f_is_integer)
  f_is_row : Addr
  fd_is_row : FuncData
  F_is_row : Fun K "is_row" "is_row" s_is_row f_is_row fd_is_row
  b_is_row : Binds K fd_is_row ["thing"] []
  g_is_row : mg "is_row" = some (.ref f_is_row)
  f_links_through : Addr
  fd_links_through : FuncData
  F_links_through : Fun K "links_through" "links_through" s_links_through f_links_through fd_links_through
  b_links_through : Binds K fd_links_through ["pieces", "word"] []
  g_links_through : mg "links_through" = some (.ref f_links_through)
  f_leads_through : Addr
  fd_leads_through : FuncData
  F_leads_through : Fun K "leads_through" "leads_through" s_leads_through f_leads_through fd_leads_through
  b_leads_through : Binds K fd_leads_through ["pieces", "word"] []
  g_leads_through : mg "leads_through" = some (.ref f_leads_through)
  f_steps_to : Addr
  fd_steps_to : FuncData
  F_steps_to : Fun K "steps_to" "steps_to" s_steps_to f_steps_to fd_steps_to
  b_steps_to : Binds K fd_steps_to ["links", "goal"] []
  g_steps_to : mg "steps_to" = some (.ref f_steps_to)
  f_lone_told : Addr
  fd_lone_told : FuncData
  F_lone_told : Fun K "lone_told" "lone_told" s_lone_told f_lone_told fd_lone_told
  b_lone_told : Binds K fd_lone_told ["lengths", "last"] []
  g_lone_told : mg "lone_told" = some (.ref f_lone_told)
  f_lone_gaps : Addr
  fd_lone_gaps : FuncData
  F_lone_gaps : Fun K "lone_gaps" "lone_gaps" s_lone_gaps f_lone_gaps fd_lone_gaps
  b_lone_gaps : Binds K fd_lone_gaps ["lengths"] []
  g_lone_gaps : mg "lone_gaps" = some (.ref f_lone_gaps)
  f_leads_to : Addr
  fd_leads_to : FuncData
  F_leads_to : Fun K "leads_to" "leads_to" s_leads_to f_leads_to fd_leads_to
  b_leads_to : Binds K fd_leads_to ["lengths", "last"] []
  g_leads_to : mg "leads_to" = some (.ref f_leads_to)
  f_shared_divisor : Addr
  fd_shared_divisor : FuncData
  F_shared_divisor : Fun K "shared_divisor" "shared_divisor" s_shared_divisor f_shared_divisor fd_shared_divisor
  b_shared_divisor : Binds K fd_shared_divisor ["lengths"] []
  g_shared_divisor : mg "shared_divisor" = some (.ref f_shared_divisor)
  f_all_told_from : Addr
  fd_all_told_from : FuncData
  F_all_told_from : Fun K "all_told_from" "all_told_from" s_all_told_from f_all_told_from fd_all_told_from
  b_all_told_from : Binds K fd_all_told_from ["lengths"] []
  g_all_told_from : mg "all_told_from" = some (.ref f_all_told_from)
  f_check_lengths : Addr
  fd_check_lengths : FuncData
  F_check_lengths : Fun K "check_lengths" "check_lengths" s_check_lengths f_check_lengths fd_check_lengths
  b_check_lengths : Binds K fd_check_lengths ["lengths"] []
  g_check_lengths : mg "check_lengths" = some (.ref f_check_lengths)
  f_law_tape : Addr
  fd_law_tape : FuncData
  F_law_tape : Fun K "_law_tape" "_law_tape" s_law_tape f_law_tape fd_law_tape
  b_law_tape : Binds K fd_law_tape ["script"] []
  g_law_tape : mg "_law_tape" = some (.ref f_law_tape)
  f_law_pick : Addr
  fd_law_pick : FuncData
  F_law_pick : Fun K "_law_pick" "_law_pick" s_law_pick f_law_pick fd_law_pick
  b_law_pick : Binds K fd_law_pick ["tape", "size"] []
  g_law_pick : mg "_law_pick" = some (.ref f_law_pick)
  f_law_odd : Addr
  fd_law_odd : FuncData
  F_law_odd : Fun K "_law_odd" "_law_odd" s_law_odd f_law_odd fd_law_odd
  b_law_odd : Binds K fd_law_odd ["tape"] []
  g_law_odd : mg "_law_odd" = some (.ref f_law_odd)
  f_law_is_word : Addr
  fd_law_is_word : FuncData
  F_law_is_word : Fun K "_law_is_word" "_law_is_word" s_law_is_word f_law_is_word fd_law_is_word
  b_law_is_word : Binds K fd_law_is_word ["thing", "most"] []
  g_law_is_word : mg "_law_is_word" = some (.ref f_law_is_word)
  f_law_common : Addr
  fd_law_common : FuncData
  F_law_common : Fun K "_law_common" "_law_common" s_law_common f_law_common fd_law_common
  b_law_common : Binds K fd_law_common ["one", "other"] []
  g_law_common : mg "_law_common" = some (.ref f_law_common)
  f_law_divisor : Addr
  fd_law_divisor : FuncData
  F_law_divisor : Fun K "_law_divisor" "_law_divisor" s_law_divisor f_law_divisor fd_law_divisor
  b_law_divisor : Binds K fd_law_divisor ["lengths"] []
  g_law_divisor : mg "_law_divisor" = some (.ref f_law_divisor)
  f_law_reach : Addr
  fd_law_reach : FuncData
  F_law_reach : Fun K "_law_reach" "_law_reach" s_law_reach f_law_reach fd_law_reach
  b_law_reach : Binds K fd_law_reach ["lengths", "last"] []
  g_law_reach : mg "_law_reach" = some (.ref f_law_reach)
  f_law_lengths : Addr
  fd_law_lengths : FuncData
  F_law_lengths : Fun K "_law_lengths" "_law_lengths" s_law_lengths f_law_lengths fd_law_lengths
  b_law_lengths : Binds K fd_law_lengths ["tape"] []
  g_law_lengths : mg "_law_lengths" = some (.ref f_law_lengths)
  f_law_asked : Addr
  fd_law_asked : FuncData
  F_law_asked : Fun K "_law_asked" "_law_asked" s_law_asked f_law_asked fd_law_asked
  b_law_asked : Binds K fd_law_asked ["kind", "lengths", "last"] []
  g_law_asked : mg "_law_asked" = some (.ref f_law_asked)
  f_law_is_number : Addr
  fd_law_is_number : FuncData
  F_law_is_number : Fun K "_law_is_number" "_law_is_number" s_law_is_number f_law_is_number fd_law_is_number
  b_law_is_number : Binds K fd_law_is_number ["thing", "most"] []
  g_law_is_number : mg "_law_is_number" = some (.ref f_law_is_number)
  f_law_due : Addr
  fd_law_due : FuncData
  F_law_due : Fun K "_law_due" "_law_due" s_law_due f_law_due fd_law_due
  b_law_due : Binds K fd_law_due ["kind", "lengths", "last"] []
  g_law_due : mg "_law_due" = some (.ref f_law_due)
  f_law_bent : Addr
  fd_law_bent : FuncData
  F_law_bent : Fun K "_law_bent" "_law_bent" s_law_bent f_law_bent fd_law_bent
  b_law_bent : Binds K fd_law_bent ["tape", "lengths"] []
  g_law_bent : mg "_law_bent" = some (.ref f_law_bent)
  f_law : Addr
  fd_law : FuncData
  F_law : Fun K "law" "law" s_law f_law fd_law
  b_law : Binds K fd_law ["script"] []
  g_law : mg "law" = some (.ref f_law)
  n_bool : mg "bool" = none
  n_enumerate : mg "enumerate" = none
  n_int : mg "int" = none
  n_isinstance : mg "isinstance" = none
  n_len : mg "len" = none
  n_list : mg "list" = none
  n_range : mg "range" = none
  n_sorted : mg "sorted" = none
  n_str : mg "str" = none
  n_sum : mg "sum" = none
  n_tuple : mg "tuple" = none
  k_MOST_LENGTHS : PySem.Tok
  g_MOST_LENGTHS : mg "MOST_LENGTHS" = some (.int 8 k_MOST_LENGTHS)
  k_MOST_LENGTH : PySem.Tok
  g_MOST_LENGTH : mg "MOST_LENGTH" = some (.int 60 k_MOST_LENGTH)
  hnO : PySem.W.specialIn K (.builtin "object.__class__") "__get__" = some (some (.builtin "getset_descriptor.__get__"))
  htO : PySem.W.takesIn K (.builtin "object.__class__") = some true
  tI : PySem.W.typeIn K (.ref f_WayError__init) = some (.type "function")
  C_WayError : Addr
  g_WayError : mg "WayError" = some (.ref C_WayError)
  C_BadTimes : Addr
  g_BadTimes : mg "BadTimes" = some (.ref C_BadTimes)
  oex_BadTimes : OexC K C_BadTimes
  i_BadTimes : PySem.W.findIn K (.ref C_BadTimes) "__init__" = some (some (.ref f_WayError__init))
  v_BadTimes : PySem.W.findIn K (.ref C_BadTimes) "value" = some none
  xf_BadTimes : XfC K C_BadTimes
  exI_BadTimes : ExcC K C_BadTimes
  exm_BadTimes : PySem.W.exmOne K (.ref C_BadTimes) (.ref C_BadTimes) = some true
  exW_BadTimes : PySem.W.exmOne K (.ref C_BadTimes) (.ref C_WayError) = some true
  kE_BadTimes : PySem.W.kitOne K (.ref C_BadTimes) (.ref C_BadTimes) = some true
  C_BadLengths : Addr
  g_BadLengths : mg "BadLengths" = some (.ref C_BadLengths)
  oex_BadLengths : OexC K C_BadLengths
  i_BadLengths : PySem.W.findIn K (.ref C_BadLengths) "__init__" = some (some (.ref f_WayError__init))
  v_BadLengths : PySem.W.findIn K (.ref C_BadLengths) "value" = some none
  xf_BadLengths : XfC K C_BadLengths
  exI_BadLengths : ExcC K C_BadLengths
  exm_BadLengths : PySem.W.exmOne K (.ref C_BadLengths) (.ref C_BadLengths) = some true
  exW_BadLengths : PySem.W.exmOne K (.ref C_BadLengths) (.ref C_WayError) = some true
  kE_BadLengths : PySem.W.kitOne K (.ref C_BadLengths) (.ref C_BadLengths) = some true
  k_MOST_LAST : PySem.Tok
  g_MOST_LAST : mg "MOST_LAST" = some (.int 1000000000000000000000000000000 k_MOST_LAST)
  g_gcd : mg "gcd" = some (.builtin "math.gcd")
  kLT : PySem.W.kitOne K (.ref C_BadLengths) (.ref C_BadTimes) = some false
  kTL : PySem.W.kitOne K (.ref C_BadTimes) (.ref C_BadLengths) = some false
/-! ### the head -/
def faH0 : List He.Fa := [.glo "WayError", .glo "BadTimes", .glo "BadLengths", .glo "is_integer", .glo "is_row", .glo "links_through", .glo "leads_through", .glo "steps_to", .glo "lone_told", .glo "lone_gaps", .glo "leads_to", .glo "shared_divisor", .glo "all_told_from", .glo "check_lengths", .glo "_law_tape", .glo "_law_pick", .glo "_law_odd", .glo "_law_is_word", .glo "_law_common", .glo "_law_divisor", .glo "_law_reach", .glo "_law_lengths", .glo "_law_asked", .glo "_law_is_number", .glo "_law_due", .glo "_law_bent", .glo "law", .free "bool", .free "enumerate", .free "int"]
def faH1 : List He.Fa := [.free "isinstance", .free "len", .free "list", .free "range", .free "sorted", .free "str", .free "sum", .free "tuple", .int "MOST_LENGTHS" 8, .int "MOST_LENGTH" 60, .int "MOST_LAST" 1000000000000000000000000000000]
def faH : List He.Fa := faH0 ++ faH1
def dH_WayError__init : He.DefD := ⟨("WayError", some "__init__"), "__init__", "WayError.__init__", defArgs s_WayError__init, defBody s_WayError__init, defScope s_WayError__init, [], []⟩
def dH_is_integer : He.DefD := ⟨("is_integer", none), "is_integer", "is_integer", defArgs s_is_integer, defBody s_is_integer, defScope s_is_integer, [], []⟩
def dH_is_row : He.DefD := ⟨("is_row", none), "is_row", "is_row", defArgs s_is_row, defBody s_is_row, defScope s_is_row, [], []⟩
def dH_links_through : He.DefD := ⟨("links_through", none), "links_through", "links_through", defArgs s_links_through, defBody s_links_through, defScope s_links_through, [], []⟩
def dH_leads_through : He.DefD := ⟨("leads_through", none), "leads_through", "leads_through", defArgs s_leads_through, defBody s_leads_through, defScope s_leads_through, [], []⟩
def dH_steps_to : He.DefD := ⟨("steps_to", none), "steps_to", "steps_to", defArgs s_steps_to, defBody s_steps_to, defScope s_steps_to, [], []⟩
def dH_lone_told : He.DefD := ⟨("lone_told", none), "lone_told", "lone_told", defArgs s_lone_told, defBody s_lone_told, defScope s_lone_told, [], []⟩
def dH_lone_gaps : He.DefD := ⟨("lone_gaps", none), "lone_gaps", "lone_gaps", defArgs s_lone_gaps, defBody s_lone_gaps, defScope s_lone_gaps, [], []⟩
def dH_leads_to : He.DefD := ⟨("leads_to", none), "leads_to", "leads_to", defArgs s_leads_to, defBody s_leads_to, defScope s_leads_to, [], []⟩
def dH_shared_divisor : He.DefD := ⟨("shared_divisor", none), "shared_divisor", "shared_divisor", defArgs s_shared_divisor, defBody s_shared_divisor, defScope s_shared_divisor, [], []⟩
def dH_all_told_from : He.DefD := ⟨("all_told_from", none), "all_told_from", "all_told_from", defArgs s_all_told_from, defBody s_all_told_from, defScope s_all_told_from, [], []⟩
def dH_check_lengths : He.DefD := ⟨("check_lengths", none), "check_lengths", "check_lengths", defArgs s_check_lengths, defBody s_check_lengths, defScope s_check_lengths, [], []⟩
def dH_law_tape : He.DefD := ⟨("_law_tape", none), "_law_tape", "_law_tape", defArgs s_law_tape, defBody s_law_tape, defScope s_law_tape, [], []⟩
def dH_law_pick : He.DefD := ⟨("_law_pick", none), "_law_pick", "_law_pick", defArgs s_law_pick, defBody s_law_pick, defScope s_law_pick, [], []⟩
def dH_law_odd : He.DefD := ⟨("_law_odd", none), "_law_odd", "_law_odd", defArgs s_law_odd, defBody s_law_odd, defScope s_law_odd, [], []⟩
def dH_law_is_word : He.DefD := ⟨("_law_is_word", none), "_law_is_word", "_law_is_word", defArgs s_law_is_word, defBody s_law_is_word, defScope s_law_is_word, [], []⟩
def dH_law_common : He.DefD := ⟨("_law_common", none), "_law_common", "_law_common", defArgs s_law_common, defBody s_law_common, defScope s_law_common, [], []⟩
def dH_law_divisor : He.DefD := ⟨("_law_divisor", none), "_law_divisor", "_law_divisor", defArgs s_law_divisor, defBody s_law_divisor, defScope s_law_divisor, [], []⟩
def dH_law_reach : He.DefD := ⟨("_law_reach", none), "_law_reach", "_law_reach", defArgs s_law_reach, defBody s_law_reach, defScope s_law_reach, [], []⟩
def dH_law_lengths : He.DefD := ⟨("_law_lengths", none), "_law_lengths", "_law_lengths", defArgs s_law_lengths, defBody s_law_lengths, defScope s_law_lengths, [], []⟩
def dH_law_asked : He.DefD := ⟨("_law_asked", none), "_law_asked", "_law_asked", defArgs s_law_asked, defBody s_law_asked, defScope s_law_asked, [], []⟩
def dH_law_is_number : He.DefD := ⟨("_law_is_number", none), "_law_is_number", "_law_is_number", defArgs s_law_is_number, defBody s_law_is_number, defScope s_law_is_number, [], []⟩
def dH_law_due : He.DefD := ⟨("_law_due", none), "_law_due", "_law_due", defArgs s_law_due, defBody s_law_due, defScope s_law_due, [], []⟩
def dH_law_bent : He.DefD := ⟨("_law_bent", none), "_law_bent", "_law_bent", defArgs s_law_bent, defBody s_law_bent, defScope s_law_bent, [], []⟩
def dH_law : He.DefD := ⟨("law", none), "law", "law", defArgs s_law, defBody s_law, defScope s_law, [], []⟩
def fnH0 : List He.DefD := [dH_WayError__init, dH_is_integer, dH_is_row, dH_links_through, dH_leads_through, dH_steps_to, dH_lone_told, dH_lone_gaps, dH_leads_to, dH_shared_divisor, dH_all_told_from, dH_check_lengths, dH_law_tape, dH_law_pick, dH_law_odd, dH_law_is_word, dH_law_common, dH_law_divisor, dH_law_reach, dH_law_lengths, dH_law_asked, dH_law_is_number, dH_law_due, dH_law_bent, dH_law]
def fnH : List He.DefD := fnH0
def x_hnO (K : PySem.W.Frag) : Bool := OQ.isB (PySem.W.specialIn K (.builtin "object.__class__") "__get__") (some (.builtin "getset_descriptor.__get__"))
def x_htO (K : PySem.W.Frag) : Bool := decide (PySem.W.takesIn K (.builtin "object.__class__") = some true)
def x_tI (K : PySem.W.Frag) : Bool := decide (PySem.W.typeIn K (.ref (He.fAd K ("WayError", some "__init__"))) = some (.type "function"))
def x_icWE (K : PySem.W.Frag) : Bool := PySem.W.isClsIn K (He.ga K "WayError")
def x_tyWE (K : PySem.W.Frag) : Bool := decide (PySem.W.typeIn K (.ref (He.ga K "WayError")) = some (.type "type"))
def x_exWE (K : PySem.W.Frag) : Bool := decide (PySem.W.subIn K (.ref (He.ga K "WayError")) (.type "BaseException") = some true)
def x_eBadTimes (K : PySem.W.Frag) : Bool := OQ.erB K (He.ga K "WayError") (He.fAd K ("WayError", some "__init__")) (He.ga K "BadTimes")
def x_eBadLengths (K : PySem.W.Frag) : Bool := OQ.erB K (He.ga K "WayError") (He.fAd K ("WayError", some "__init__")) (He.ga K "BadLengths")
def x_gcd (K : PySem.W.Frag) : Bool := OQ.isB (PySem.W.nsIn K mainGlobals "gcd") (some (.builtin "math.gcd"))
def x_kLT (K : PySem.W.Frag) : Bool := decide (PySem.W.kitOne K (.ref (He.ga K "BadLengths")) (.ref (He.ga K "BadTimes")) = some false)
def x_kTL (K : PySem.W.Frag) : Bool := decide (PySem.W.kitOne K (.ref (He.ga K "BadTimes")) (.ref (He.ga K "BadLengths")) = some false)
def exH (K : PySem.W.Frag) : Bool := x_hnO K && (x_htO K && (x_tI K && (x_icWE K && (x_tyWE K && (x_exWE K && (x_eBadTimes K && (x_eBadLengths K && (x_gcd K && (x_kLT K && (x_kTL K))))))))))
abbrev hk : PySem.W.Hook := OQ.hookB 5 faH fnH exH
def ob : PySem.W.SharedT → He.AlD × Bool := OQ.obB 5 faH fnH exH

/-! ### the run -/
def looseH0 : List Str := ["WayError", "BadTimes", "BadLengths", "is_integer", "is_row", "links_through", "leads_through", "steps_to", "MOST_LENGTHS", "MOST_LENGTH", "MOST_LAST", "lone_told", "lone_gaps", "leads_to", "shared_divisor", "all_told_from", "check_lengths", "_law_tape", "_law_pick", "_law_odd", "_law_is_word", "_law_common", "_law_divisor", "_law_reach", "_law_lengths", "_law_asked", "_law_is_number", "_law_due", "_law_bent"]
def looseH : List Str := looseH0
abbrev Rw : PySem.W.OpenRow := PySem.W.OpenLaw.row PySem.Challenge.rw_watchedways_k86_lone_gaps_and_refused
set_option maxHeartbeats 0 in
theorem run (w : World) : HandSHeadRun.RunEqI Rw (PySem.W.view Rw.prog [0, 35]) hk ob 30000 looseH w := by
  unfold HandSHeadRun.RunEqI
  kernel_rfl

/-! ### kinds stay -/
theorem tyX_same {K : PySem.W.Frag} {H H' : Hp} {x : V} {t : Value} (h : TyX K H x t) (s : Same H H') : TyX K H' x t := by
  cases h with
  | base b =>
    refine .base ?_
    cases b with
    | non => exact .non
    | bl x => exact .bl x
    | int i => exact .int i
    | str x => exact .str x
    | flt x => exact .flt x
    | lst e => exact .lst (s _ _ e)
    | frz e => exact .frz (s _ _ e)
    | tup e => exact .tup (s _ _ e)
    | dK e => exact .dK (s _ _ e)
    | dT e => exact .dT (s _ _ e)
    | ins e cl a n k m => exact .ins (s _ _ e) cl a n k m
  | byt b => exact .byt b
  | set e => exact .set (s _ _ e)
  | kList e c => exact .kList e c
  | kTuple e c => exact .kTuple e c
  | kDict e c => exact .kDict e c
  | fTuple e => exact .fTuple (s _ _ e)
  | fDict e => exact .fDict (s _ _ e)

/-! ### the tape of a script (55 laws) -/
def TapeAt (H : Hp) (h c : Addr) : Prop := ∃ (cs : List Int) (p q m n : Int), H h = some (.lst [.ref c, .int p, .int q, .int m, .int n]) ∧ H c = some (.lst (cs.map V.int)) ∧ c ≠ h ∧ 0 ≤ p
/-- all but what stands at h is as it was -/
def But (h : Addr) (H H' : Hp) : Prop := ∀ b, b ≠ h → H' b = H b
def spPick : Sp := fun vs H Q _ => ∃ (h c : Addr) (size : Int), vs = [.ref h, .int size] ∧ TapeAt H h c ∧ 0 < size ∧ size.natAbs.log2 < 9000 ∧
  ∀ (r : Int) (H' : Hp), 0 ≤ r → r < size → TapeAt H' h c → But h H H' → Q (.int r) H'
def spTape (K : PySem.W.Frag) : Sp := fun vs H Q _ => ∃ (a : Addr) (ns : List Int), vs = [.ref a] ∧ SqL K H a (ns.map V.int) ∧
  ∀ (h c : Addr) (H' : Hp), TapeAt H' h c → Same H H' → H h = none → H c = none → Q (.ref h) H'
theorem upd_upd {H : Hp} {p : Addr} {o u : HO} : upd (upd H p o) p u = upd H p u := by
  funext b
  by_cases e : b = p
  · subst e; rw [upd_same, upd_same]
  · rw [upd_ne e, upd_ne e, upd_ne e]
theorem upd_id {H : Hp} {p : Addr} {o : HO} (e : H p = some o) : upd H p o = H := by
  funext b
  by_cases h : b = p
  · subst h; rw [upd_same, e]
  · rw [upd_ne h]
theorem same_upd {H : Hp} {p : Addr} {o : HO} (h : H p = none) : Same H (upd H p o) := fun b u e => by
  rw [upd_ne (ne_of_none e h)]; exact e
section
variable {P : Program} {w : World} {K : PySem.W.Frag} {mg : Str → Option Value} {base : Heap}
theorem ok_law_tape (T : Top K mg) : FnOk P w K mg base CX0 1 T.f_law_tape T.fd_law_tape ["script"] (spTape K) := by
  refine T.F_law_tape.ok sc_law_tape (fun vs H Q E h => ?_) (fun cdv A outer s H vs Q E hr h => ?_)
  · obtain ⟨a, ns, rfl, _⟩ := h; rfl
  · obtain ⟨a, ns, rfl, hS, k⟩ := h
    refine ⟨_, (pss_one (ps_ret (pe_lst (pa_cons (pe_callTy call_list_of (by rfl) T.n_list (by decide +kernel) (pa_cons (pv 0) pa_nil)) (pa_cons pe_int (pa_cons pe_int (pa_cons pe_int (pa_cons pe_int pa_nil)))))))), ?_⟩
    walk_at "rd"
    refine ⟨a, ns.map V.int, rfl, .inl hS, fun c hc => ?_⟩
    walk_at "rd"
    refine ⟨by show 5 ≤ sizeLine; decide, fun h hh => ?_⟩
    have nh : h ≠ c := fun z => by rw [z, upd_same] at hh; cases hh
    have hh' : H h = none := by rw [upd_ne nh] at hh; exact hh
    exact k h c _ ⟨ns, 0, 0, 1, 0, upd_same, by rw [upd_ne (Ne.symm nh)]; exact upd_same, Ne.symm nh, Int.le_refl _⟩ (fun b u e => same_upd hh _ _ (same_upd hc _ _ e)) hh' hc
theorem ok_law_pick (T : Top K mg) : FnOk P w K mg base CX0 1 T.f_law_pick T.fd_law_pick ["tape", "size"] spPick := by
  refine T.F_law_pick.ok sc_law_pick (fun vs H Q E h => ?_) (fun cdv A outer s H vs Q E hr h => ?_)
  · obtain ⟨h, c, size, rfl, _⟩ := h; rfl
  · obtain ⟨h, c, size, rfl, ⟨cs, p, q, m, n, e1, e2, ne, hp⟩, m0, ml, k⟩ := h
    refine ⟨_, (pss_cons (ps_if (pt_cmpR op_gt (pe_ix ix_list (pv 0) pe_int (fun _ _ => rfl)) pe_int (nomark _))
 (pss_cons (ps_set (i := 2) sc_law_pick.nd rfl (Or.inl rfl) (pe_op op_mod (pe_callTy RD.c_int (by rfl) T.n_int (by decide +kernel) (pa_cons (pe_ix ix_list (pv 0) pe_int (fun _ _ => rfl)) pa_nil)) (pv 1)))
 (pss_cons (ps_asg (pe_op op_fdivW (pe_ix ix_list (pv 0) pe_int (fun _ _ => rfl)) (pv 1)) (pg_sub (pv 0) pe_int set_list))
 (pss_one (ps_ret (pv 2)))))
 pss_nil)
 (pss_cons (ps_asg (pe_op op_add (pe_ix ix_list (pv 0) pe_int (fun _ _ => rfl)) pe_int) (pg_sub (pv 0) pe_int set_list))
 (pss_cons (ps_set (i := 3) sc_law_pick.nd rfl (Or.inl rfl) pe_int)
 (C8.pss_cut (ps_if (pt_cmpR op_lt (pe_ix ix_list (pv 0) pe_int (fun _ _ => rfl)) (pe_callB RD.c_len (by rfl) T.n_len (by decide +kernel) (pa_cons (pe_ix ix_list (pv 0) pe_int (fun _ _ => rfl)) pa_nil)) (nomark _))
 (pss_cons (ps_set (i := 3) sc_law_pick.nd rfl (Or.inl rfl) (pe_ix ix_list (pe_ix ix_list (pv 0) pe_int (fun _ _ => rfl)) (pe_ix ix_list (pv 0) pe_int (fun _ _ => rfl)) (fun _ _ => rfl)))
 (pss_one (ps_asg (pe_op op_add (pe_ix ix_list (pv 0) pe_int (fun _ _ => rfl)) pe_int) (pg_sub (pv 0) pe_int set_list))))
 pss_nil)
 (pss_cons (ps_if (pt_cmpR op_ge (pv 3) (pe_op op_pow pe_int pe_int) (nomark _))
 (pss_cons (ps_asg (pe_op op_fdivW (pv 3) (pv 1)) (pg_sub (pv 0) pe_int set_list))
 (pss_one (ps_ret (pe_op op_mod (pe_callTy RD.c_int (by rfl) T.n_int (by decide +kernel) (pa_cons (pv 3) pa_nil)) (pv 1)))))
 pss_nil)
 (pss_cons (ps_set (i := 4) sc_law_pick.nd rfl (Or.inl rfl) (pe_op op_mod (pe_callTy RD.c_int (by rfl) T.n_int (by decide +kernel) (pa_cons (pe_op op_add (pe_op op_add (pe_op op_mul (pe_ix ix_list (pv 0) pe_int (fun _ _ => rfl)) pe_int) (pe_op op_mod (pe_callTy RD.c_int (by rfl) T.n_int (by decide +kernel) (pa_cons (pv 3) pa_nil)) pe_int)) (pe_op op_mul (pe_ix ix_list (pv 0) pe_int (fun _ _ => rfl)) pe_int)) pa_nil)) pe_int))
 (pss_cons (ps_set (i := 4) sc_law_pick.nd rfl (Or.inl rfl) (pe_op op_mod (pe_callTy RD.c_int (by rfl) T.n_int (by decide +kernel) (pa_cons (pe_op op_mul (pv 4) (pe_op op_add (pe_op op_fdivW (pv 4) pe_int) pe_int)) pa_nil)) pe_int))
 (pss_cons (ps_asg (pv 4) (pg_sub (pv 0) pe_int set_list))
 (pss_one (ps_ret (pe_op op_mod (pe_callTy RD.c_int (by rfl) T.n_int (by decide +kernel) (pa_cons (pe_op op_fdivW (pv 4) pe_int) pa_nil)) (pv 1)))))))))))), ?_⟩
    have fin : ∀ p2 q2 m2 n2 : Int, 0 ≤ p2 → TapeAt (upd H h (.lst [.ref c, .int p2, .int q2, .int m2, .int n2])) h c ∧ But h H (upd H h (.lst [.ref c, .int p2, .int q2, .int m2, .int n2])) := fun p2 q2 m2 n2 h0 =>
      ⟨⟨cs, p2, q2, m2, n2, upd_same, (by rw [upd_ne ne]; exact e2), ne, h0⟩, fun b hb => upd_ne hb⟩
    walk_at "rd"
    refine RD.iteD (fun c1 => ?_) (fun c1 => ?_)
    · walk_at "rd"
      exact k _ _ (Int.emod_nonneg _ (by omega)) (Int.emod_lt_of_pos _ m0) (fin _ _ _ _ hp).1 (fin _ _ _ _ hp).2
    · walk_at "rd"
      refine RD.d_cut (fun σ' H' => ∃ (x y : Option V) (p' cell : Int), σ' = [some (.ref h), some (.int size), x, some (.int cell), y] ∧ H' = upd H h (.lst [.ref c, .int p', .int q, .int m, .int (n + 1)]) ∧ 0 ≤ p') ?_ ?_
      · walk_at "rd"
        refine RD.d_lenL (SqL.of (by rw [upd_ne ne]; exact e2)) ?_
        walk_at "rd"
        refine RD.iteD (fun c2 => ?_) (fun c2 => ?_)
        · have hl : p.toNat < cs.length := by rw [List.length_map] at c2; omega
          have hg : (cs.map V.int)[p.toNat]? = some (V.int cs[p.toNat]) := by simp [hl]
          have ha : atI (cs.map V.int) p = some (V.int cs[p.toNat]) := by
            have z := atI_nat hg
            rwa [Int.toNat_of_nonneg hp] at z
          walk_at "rd"
          refine RD.d_ixL (SqL.of (by rw [upd_ne ne]; exact e2)) ha ?_
          walk_at "rd"
          exact ⟨_, _, p + 1, cs[p.toNat], rfl, (by rw [upd_upd]; rfl), by omega⟩
        · walk_at "rd"
          exact ⟨_, _, p, 0, rfl, rfl, hp⟩
      · rintro σ' H' ⟨x, y, p', cell, rfl, rfl, hp'⟩
        walk_at "rd"
        refine RD.iteD (fun c2 => ?_) (fun c2 => ?_)
        · walk_at "rd"
          rw [upd_upd]
          exact k _ _ (Int.emod_nonneg _ (by omega)) (Int.emod_lt_of_pos _ m0) (fin _ _ _ _ hp').1 (fin _ _ _ _ hp').2
        · walk_at "rd"
          rw [upd_upd]
          exact k _ _ (Int.emod_nonneg _ (by omega)) (Int.emod_lt_of_pos _ m0) (fin _ _ _ _ hp').1 (fin _ _ _ _ hp').2
end

/-! ### all but one object stays -/
def Kx (x : Addr) (H H' : Hp) : Prop := ∀ b o, b ≠ x → H b = some o → H' b = some o
theorem Kx.trans {x : Addr} {H H1 H2 : Hp} (a : Kx x H H1) (b : Kx x H1 H2) : Kx x H H2 := fun c o n e => b c o n (a c o n e)
theorem Same.kx {x : Addr} {H H' : Hp} (s : Same H H') : Kx x H H' := fun b o _ e => s b o e
theorem kx_upd {x : Addr} {H : Hp} {o : HO} : Kx x H (upd H x o) := fun b u n e => by rw [upd_ne n]; exact e
theorem putF_none {f : Str} {v : V} : putF f v [] = [(f, v)] := rfl
theorem putF_ne {f g : Str} {u v : V} {r : List (Str × V)} (n : g ≠ f) : putF f v ((g, u) :: r) = (g, u) :: putF f v r := if_neg n
theorem lk_ne {f g : Str} {v : V} {r : List (Str × V)} (h : (f == g) = false) : List.lookup f ((g, v) :: r) = List.lookup f r := by simp [List.lookup, h]
theorem lk_eq {f : Str} {v : V} {r : List (Str × V)} : List.lookup f ((f, v) :: r) = some v := by simp [List.lookup]
theorem d_iTup {K : PySem.W.Frag} {tl : TE} {R : It → Hp → Prop} {σ : L2.St} {H : Hp} (h : tl σ H fun x H1 => ∃ a, x = .ref a ∧ (∃ xs, SqT K H1 a xs) ∧ R (Itt K a) H1) : iTup K tl σ H R := h
theorem kit_selfR {K : PySem.W.Frag} {t : Value} : PySem.W.kitOne K t t = some true := by
  unfold PySem.W.kitOne
  rw [if_pos (by simp)]

/-! ### rows -/
theorem kitA_list {K : PySem.W.Frag} : PySem.W.kitAny K (.type "list") [.type "list", .type "tuple"] = some true := by
  unfold PySem.W.kitAny
  rw [kit_ty (r := true) (by decide +kernel)]
theorem kitA_tuple {K : PySem.W.Frag} : PySem.W.kitAny K (.type "tuple") [.type "list", .type "tuple"] = some true := by
  unfold PySem.W.kitAny
  rw [kit_ty (r := false) (by decide +kernel)]
  unfold PySem.W.kitAny
  rw [kit_ty (r := true) (by decide +kernel)]
def spIsRow (K : PySem.W.Frag) : Sp := fun vs H Q _ => ∃ (x : V) (t : Value) (b : Bool), vs = [x] ∧ TyX K H x t ∧ PySem.W.kitAny K t [.type "list", .type "tuple"] = some b ∧ ∀ H', Same H H' → Q (.bl b) H'
section
variable {P : Program} {w : World} {K : PySem.W.Frag} {mg : Str → Option Value} {base : Heap}
theorem ok_is_row (T : Top K mg) : FnOk P w K mg base CX0 1 T.f_is_row T.fd_is_row ["thing"] (spIsRow K) := by
  refine T.F_is_row.ok sc_is_row (fun vs H Q E h => ?_) (fun cdv A outer s H vs Q E hr h => ?_)
  · obtain ⟨x, t, b, rfl, _⟩ := h; rfl
  · obtain ⟨x, t, b, rfl, ty, e, k⟩ := h
    refine ⟨_, (pss_one (ps_ret (pe_callB call_isiT (by rfl) T.n_isinstance (by decide +kernel) (pa_cons (pv 0) (pa_cons (pe_tup (pa_cons (pe_bltn (v := V.ty "list") (by rfl) T.n_list (by decide +kernel) rfl) (pa_cons (pe_bltn (v := V.ty "tuple") (by rfl) T.n_tuple (by decide +kernel) rfl) pa_nil))) pa_nil))))), ?_⟩
    walk_at "rd"
    refine ⟨by show 2 ≤ sizeLine; decide, fun tp htp => ?_⟩
    walk_at "rd"
    exact ⟨x, tp, _, t, _, b, rfl, upd_same, .cons (.ty _) (.cons (.ty _) .nil), tyX_same ty (same_upd htp), e, k _ (same_upd htp)⟩
end

/-! ### errors with a value -/
def spWE (K : PySem.W.Frag) : Sp := fun vs H Q _ => ∃ (a C : Addr) (v : V), vs = [.ref a, v] ∧ OexC K C ∧ PySem.W.findIn K (.ref C) "value" = some none ∧ H a = some (exo a C none) ∧
  ∀ d, H d = none → d ≠ a → Q .non (upd (upd H d (exd d [("value", v)])) a (exo a C (some d)))
/-- an error's own dict, with its value -/
def ErrD (v : V) : HO := .xd [(("value" : Str), v)]
theorem errD_v (v : V) : List.lookup ("value" : Str) [(("value" : Str), v)] = some v := by simp [List.lookup]
section
variable {P : Program} {w : World} {K : PySem.W.Frag} {mg : Str → Option Value} {base : Heap}
theorem ok_WayError__init (T : Top K mg) : FnOk P w K mg base CX0 1 T.f_WayError__init T.fd_WayError__init ["self", "value"] (spWE K) := by
  refine T.F_WayError__init.ok sc_WayError__init (fun vs H Q E h => ?_) (fun cdv A outer s H vs Q E hr h => ?_)
  · obtain ⟨a, C, v, rfl, _⟩ := h; rfl
  · obtain ⟨a, C, v, rfl, oc, nv, ha, q⟩ := h
    refine ⟨_, (pss_one (ps_ost (pv 0) (pv 1))), ?_⟩
    exact ⟨_, rfl, _, rfl, a, C, rfl, oc, nv, .inl ⟨ha, fun d hd ne => q d hd ne⟩⟩
end
/-- what is asked where such an error is raised -/
theorem d_mkO {K : PySem.W.Frag} {H : Hp} {C : Addr} {v : V} {R : XK} (oc : OexC K C) (nv : PySem.W.findIn K (.ref C) "value" = some none) (k : ∀ d, H d = none → R (.ref C) (some d) (upd H d (ErrD v))) :
    [v].length ≤ 1000 ∧ ∀ a, H a = none → spWE K (.ref a :: ([v] ++ [])) (upd H a (exo a C none))
      (fun u H2 => u = .non ∧ ∃ (d : Addr) (fs : List (Str × V)), H2 a = some (exo a C (some d)) ∧ H2 d = some (exd d fs) ∧ H d = none ∧ R (.ref C) (some d) (upd (del H2 a) d (.xd fs))) (fun _ _ _ => False) := by
  refine ⟨by simp, fun a ha => ⟨a, C, v, rfl, oc, nv, upd_same, fun d hd ne => ⟨rfl, d, [(("value" : Str), v)], upd_same, ?_, ?_, ?_⟩⟩⟩
  · rw [upd_ne ne, upd_same]
  · rw [upd_ne ne] at hd; exact hd
  · have hd0 : H d = none := by rw [upd_ne ne] at hd; exact hd
    have e : upd (del (upd (upd (upd H a (exo a C none)) d (exd d [("value", v)])) a (exo a C (some d))) a) d (.xd [("value", v)]) = upd H d (ErrD v) := by
      funext b
      by_cases hb : b = d
      · subst hb; rw [upd_same, upd_same]; rfl
      · rw [upd_ne hb, upd_ne hb]
        by_cases hba : b = a
        · subst hba; rw [del_same, ha]
        · rw [del_ne hba, upd_ne hba, upd_ne hb, upd_ne hba]
    rw [e]; exact k d hd0
theorem d_raise {K : PySem.W.Frag} {σ : L2.St} {H : Hp} {C : Addr} {ta : TA} {R : XK} (h : ta σ H fun vs H1 => vs.length ≤ 1000 ∧ ∀ a, H1 a = none → spWE K (.ref a :: (vs ++ [])) (upd H1 a (exo a C none))
      (fun u H2 => u = .non ∧ ∃ (d : Addr) (fs : List (Str × V)), H2 a = some (exo a C (some d)) ∧ H2 d = some (exd d fs) ∧ H1 d = none ∧ R (.ref C) (some d) (upd (del H2 a) d (.xd fs))) (fun _ _ _ => False)) :
    tMkO C (spWE K) [] ta σ H R := h

/-! ### integers -/
/-- whether x is an integer (a flag is none) -/
def IsI (K : PySem.W.Frag) (H : Hp) (x : V) (b : Bool) : Prop := ∃ (t : Value) (b1 b2 : Bool), TyX K H x t ∧ PySem.W.kitOne K t (.type "int") = some b1 ∧ PySem.W.kitOne K t (.type "bool") = some b2 ∧ b = (b1 && !b2)
theorem isI_int {K : PySem.W.Frag} {H : Hp} (i : Int) : IsI K H (.int i) true := ⟨.type "int", true, false, .base (.int i), kit_ty (by decide +kernel), kit_ty (by decide +kernel), rfl⟩
theorem isI_bl {K : PySem.W.Frag} {H : Hp} (i : Bool) : IsI K H (.bl i) false := ⟨.type "bool", true, true, .base (.bl i), kit_ty (by decide +kernel), kit_ty (by decide +kernel), rfl⟩
theorem isI_non {K : PySem.W.Frag} {H : Hp} : IsI K H .non false := ⟨.type "NoneType", false, false, .base .non, kit_ty (by decide +kernel), kit_ty (by decide +kernel), rfl⟩
theorem isI_str {K : PySem.W.Frag} {H : Hp} (z : Str) : IsI K H (.str z) false := ⟨.type "str", false, false, .base (.str z), kit_ty (by decide +kernel), kit_ty (by decide +kernel), rfl⟩
theorem isI_lst {K : PySem.W.Frag} {H : Hp} {a : Addr} {xs : List V} (e : H a = some (.lst xs)) : IsI K H (.ref a) false := ⟨.type "list", false, false, .base (.lst e), kit_ty (by decide +kernel), kit_ty (by decide +kernel), rfl⟩
theorem isI_tup {K : PySem.W.Frag} {H : Hp} {a : Addr} {xs : List V} (e : H a = some (.tup xs)) : IsI K H (.ref a) false := ⟨.type "tuple", false, false, .base (.tup e), kit_ty (by decide +kernel), kit_ty (by decide +kernel), rfl⟩
theorem isI_dK {K : PySem.W.Frag} {H : Hp} {a : Addr} {xs : List (Key × V)} (e : H a = some (.dK xs)) : IsI K H (.ref a) false := ⟨.type "dict", false, false, .base (.dK e), kit_ty (by decide +kernel), kit_ty (by decide +kernel), rfl⟩
def spIsInt (K : PySem.W.Frag) : Sp := fun vs H Q _ => ∃ (x : V) (b : Bool), vs = [x] ∧ IsI K H x b ∧ Q (.bl b) H
section
variable {P : Program} {w : World} {K : PySem.W.Frag} {mg : Str → Option Value} {base : Heap}
theorem ok_is_integer (T : Top K mg) : FnOk P w K mg base CX0 1 T.f_is_integer T.fd_is_integer ["thing"] (spIsInt K) := by
  refine T.F_is_integer.ok sc_is_integer (fun vs H Q E h => ?_) (fun cdv A outer s H vs Q E hr h => ?_)
  · obtain ⟨x, b, rfl, _⟩ := h; rfl
  · obtain ⟨x, b, rfl, ⟨t, b1, b2, ty, e1, e2, eb⟩, q⟩ := h
    refine ⟨_, (pss_one (ps_ret (pe_and (pe_callB call_isi (by rfl) T.n_isinstance (by decide +kernel) (pa_cons (pv 0) (pa_cons (pe_bltn (v := V.ty "int") (by rfl) T.n_int (by decide +kernel) rfl) pa_nil))) (pe_one (pe_not (pe_callB call_isi (by rfl) T.n_isinstance (by decide +kernel) (pa_cons (pv 0) (pa_cons (pe_bltn (v := V.ty "bool") (by rfl) T.n_bool (by decide +kernel) rfl) pa_nil)))))))), ?_⟩
    walk_at "rd"
    refine RD.d_isi (.ty _) ty e1 ?_
    walk_at "rd"
    cases b1 with
    | false =>
      walk_at "rd"
      rw [eb] at q; exact q
    | true =>
      walk_at "rd"
      refine RD.d_isi (.ty _) ty e2 ?_
      walk_at "rd"
      rw [eb] at q
      simpa using q
end

/-! ### the links of a word's spots -/
open WW (Ns)
/-- the rows at L, n of them; all of them made behind H0 -/
def RowsX (H0 H : Hp) (L : Addr) (n : Nat) (rows : Nat → List Nat) : Prop := ∃ rs : List Addr, rs.length = n ∧ rs.Nodup ∧ L ∉ rs ∧ (∀ a ∈ rs, H0 a = none) ∧ H L = some (.lst (rs.map V.ref)) ∧ ∀ (i : Nat) (a : Addr), rs[i]? = some a → H a = some (.lst (Ns (rows i)))
def RowsAt (H : Hp) (L : Addr) (n : Nat) (rows : Nat → List Nat) : Prop := ∃ rs : List Addr, rs.length = n ∧ H L = some (.lst (rs.map V.ref)) ∧ ∀ (i : Nat) (a : Addr), rs[i]? = some a → H a = some (.lst (Ns (rows i)))
theorem RowsAt.same {H H' : Hp} {L : Addr} {n : Nat} {rows : Nat → List Nat} (h : RowsAt H L n rows) (s : Same H H') : RowsAt H' L n rows := by
  obtain ⟨rs, h1, h2, h3⟩ := h
  exact ⟨rs, h1, s _ _ h2, fun i a e => s _ _ (h3 i a e)⟩
theorem RowsX.row {K : PySem.W.Frag} {H0 H : Hp} {L : Addr} {n i : Nat} {rows : Nat → List Nat} {iv : Int} {Q : VK} (h : RowsX H0 H L n rows) (hi : i < n) (e : iv = i)
    (k : ∀ a, H a = some (.lst (Ns (rows i))) → (∀ y, RowsX H0 (upd H a (.lst (Ns (rows i ++ [y])))) L n (WW.push rows i y)) → (∀ o, Same H0 H → Same H0 (upd H a o)) → Q (.ref a) H) : rIxL K (.ref L) (.int iv) H Q := by
  subst e
  obtain ⟨rs, h1, h2, h3, h4, h5, h6⟩ := h
  have il : i < rs.length := by rw [h1]; exact hi
  have ea : rs[i]? = some rs[i] := List.getElem?_eq_getElem il
  have nL : L ≠ rs[i] := fun z => h3 (z ▸ List.getElem_mem il)
  refine RD.d_ixL (SqL.of h5) (atI_nat (by rw [List.getElem?_map, ea]; rfl)) (k _ (h6 i _ ea) (fun y => ?_) (fun o s b u eb => ?_))
  · refine ⟨rs, h1, h2, h3, h4, by rw [upd_ne nL]; exact h5, fun j a ej => ?_⟩
    unfold WW.push
    by_cases c : j = i
    · subst c
      rw [ea] at ej
      cases ej
      rw [upd_same, if_pos rfl]
    · have na : a ≠ rs[i] := fun z => by
        subst z
        exact c ((List.getElem?_inj (List.getElem?_eq_some_iff.mp ej).1 h2).mp (ej.trans ea.symm))
      rw [upd_ne na, if_neg c]
      exact h6 j a ej
  · have nb : b ≠ rs[i] := ne_of_none eb (h4 _ (List.getElem_mem il))
    rw [upd_ne nb]
    exact s _ _ eb
theorem RowsX.zero {H0 H : Hp} {L p : Addr} {i : Nat} {rs : List Addr} (l : rs.length = i) (nd : rs.Nodup) (nL : L ∉ rs) (f : ∀ a ∈ rs, H0 a = none) (e : H L = some (.lst (rs.map V.ref))) (z : ∀ a ∈ rs, H a = some (.lst [])) (hp : H p = none) (hp0 : H0 p = none) (np : p ≠ L) :
    (rs ++ [p]).length = i + 1 ∧ (rs ++ [p]).Nodup ∧ L ∉ rs ++ [p] ∧ (∀ a ∈ rs ++ [p], H0 a = none) ∧ (upd (upd H p (.lst [])) L (.lst (rs.map V.ref ++ [.ref p]))) L = some (.lst ((rs ++ [p]).map V.ref)) ∧ ∀ a ∈ rs ++ [p], (upd (upd H p (.lst [])) L (.lst (rs.map V.ref ++ [.ref p]))) a = some (.lst []) := by
  have pn : p ∉ rs := fun m => by rw [z p m] at hp; cases hp
  refine ⟨by rw [List.length_append, l]; rfl, ?_, ?_, ?_, ?_, ?_⟩
  · rw [List.nodup_append]
    refine ⟨nd, by simp, fun a ha b hb q => ?_⟩
    rw [List.mem_singleton] at hb
    subst hb; subst q
    exact pn ha
  · intro m
    rcases List.mem_append.mp m with m | m
    · exact nL m
    · exact np (List.mem_singleton.mp m).symm
  · intro a m
    rcases List.mem_append.mp m with m | m
    · exact f a m
    · rw [List.mem_singleton.mp m]; exact hp0
  · rw [upd_same, List.map_append]; rfl
  · intro a m
    rcases List.mem_append.mp m with m | m
    · have na : a ≠ L := fun q => nL (q ▸ m)
      have np' : a ≠ p := fun q => pn (q ▸ m)
      rw [upd_ne na, upd_ne np']; exact z a m
    · rw [List.mem_singleton.mp m, upd_ne np, upd_same]
/-- the links of W by the pieces ws, which may be alike -/
structure LksG (ws : List WW.Wd) (W : WW.Wd) (rows : Nat → List Nat) : Prop where
  mem : ∀ i j, j ∈ rows i ↔ WW.Link ws W i j
  up : ∀ i, (rows i).Pairwise (· ≤ ·)
  nd : ws.Nodup → ∀ i, (rows i).Nodup
/-- the links of W by the book of ws -/
structure Lks (ws : List WW.Wd) (W : WW.Wd) (rows : Nat → List Nat) : Prop where
  mem : ∀ i j, j ∈ rows i ↔ WW.Link ws W i j
  up : ∀ i, (rows i).Pairwise (· < ·)
theorem LksG.strict {ws : List WW.Wd} {W : WW.Wd} {rows : Nat → List Nat} (h : LksG ws W rows) (nd : ws.Nodup) : Lks ws W rows := ⟨h.mem, fun i => WW.strict_of (h.up i) (h.nd nd i)⟩
/-- pieces that may be looked for in W -/
structure Okp (ws : List WW.Wd) (W : WW.Wd) : Prop where
  ne : ∀ w ∈ ws, w ≠ []
  sz : ∀ w ∈ ws, w.length ≤ sizeLine
  many : ws.length ≤ 1000
  len : W.length ≤ 1000
def spThrough (K : PySem.W.Frag) : Sp := fun vs H Q _ => ∃ (a : Addr) (ws : List WW.Wd) (l : WW.Wd), vs = [.ref a, .str (WW.S l)] ∧ OQ.SeqAt K H a (WW.Ss ws) ∧ Okp ws l ∧
  ∀ H' L rows, Same H H' → (H L = none ∧ ∀ rs : List Addr, H' L = some (.lst (rs.map V.ref)) → ∀ a ∈ rs, H a = none) → RowsAt H' L (l.length + 1) rows → LksG ws l rows → Q (.ref L) H'
section
variable {P : Program} {w : World} {K : PySem.W.Frag} {mg : Str → Option Value} {base : Heap}
theorem ok_links_through (T : Top K mg) : FnOk P w K mg base CX0 1 T.f_links_through T.fd_links_through ["pieces", "word"] (spThrough K) := by
  refine T.F_links_through.ok sc_links_through (fun vs H Q E h => ?_) (fun cdv A outer s H vs Q E hr h => ?_)
  · obtain ⟨a, ws, l, rfl, _⟩ := h; rfl
  · obtain ⟨a, ws, l, rfl, sa, ok, k⟩ := h
    have l40 := ok.len
    have hz : l.length ≤ sizeLine := Nat.le_trans l40 (by decide)
    refine ⟨_, (pss_cons (ps_setLc (i := 2) (own := [("_", 3)]) (g := (gName 3)) (tt := tYes) rfl sc_links_through.nd rfl rfl (sw_true rfl rfl rfl (by decide +kernel)) (pi_range1 (by rfl) T.n_range (pa_cons (pe_op op_add (pe_callB RD.c_len (by rfl) T.n_len (by decide +kernel) (pa_cons (pv 1) pa_nil)) pe_int) pa_nil)) (blkOk_by (own := [("_", 3)]) (N := ["pieces", "word", "links", "_", "piece", "low", "high", "spots"]) (sc := defScope s_links_through) (by decide +kernel)) (fun _ _ _ _ _ => (pg_name (i := 3) sc_links_through.nd rfl (Or.inl rfl))) (fun _ _ _ _ _ => pts_nil) (fun _ _ _ _ _ => (pe_lst pa_nil)))
 (pss_cons (ps_for PassesOwn.never rfl (OQ.pi_seq (pv 0)) (pg_name (i := 4) sc_links_through.nd rfl (Or.inl rfl))
 (pss_cons (ps_set (i := 5) sc_links_through.nd rfl (Or.inl rfl) (pe_bm PySem.F.plainAttrs_str PySem.F.slot_str_find PySem.F.type_str_find RD.m_find1 (pv 1) (pa_cons (pv 4) pa_nil)))
 (pss_one (ps_while PassesOwn.never (pt_cmpR op_ge (pv 5) pe_int (nomark _))
 (pss_cons (ps_set (i := 6) sc_links_through.nd rfl (Or.inl rfl) (pe_op op_add (pv 5) (pe_callB RD.c_len (by rfl) T.n_len (by decide +kernel) (pa_cons (pv 4) pa_nil))))
 (pss_cons (ps_expr (pe_bm PySem.F.plainAttrs_list PySem.F.slot_list_append PySem.F.type_list_append mt_append (pe_ix ix_list (pv 2) (pv 5) (fun _ _ => rfl)) (pa_cons (pv 6) pa_nil)))
 (pss_cons (ps_expr (pe_bm PySem.F.plainAttrs_list PySem.F.slot_list_append PySem.F.type_list_append mt_append (pe_ix ix_list (pv 2) (pv 6) (fun _ _ => rfl)) (pa_cons (pv 5) pa_nil)))
 (pss_one (ps_set (i := 5) sc_links_through.nd rfl (Or.inl rfl) (pe_bm PySem.F.plainAttrs_str PySem.F.slot_str_find PySem.F.type_str_find RD.m_find2 (pv 1) (pa_cons (pv 4) (pa_cons (pe_op op_add (pv 5) pe_int) pa_nil))))))))))))
 (pss_one (ps_ret (pe_lc (own := [("spots", 7)]) (g := (gName 7)) (tt := tYes) rfl sc_links_through.nd (pi_list (pv 2)) (blkOk_by (own := [("spots", 7)]) (N := ["pieces", "word", "links", "_", "piece", "low", "high", "spots"]) (sc := defScope s_links_through) (by decide +kernel)) (fun _ _ _ _ _ => (pg_name (i := 7) sc_links_through.nd rfl (Or.inl rfl))) (fun _ _ _ _ _ => pts_nil) (fun _ _ _ _ _ => (pe_callB (OQ.sortK K) (by rfl) T.n_sorted (by decide +kernel) (pa_cons (pv 7) pa_nil)))))))), ?_⟩
    walk_at "tx"
    refine ⟨_, rfl, by omega, by omega, fun D hD => ?_⟩
    rw [show ((l.length : Int) + 1).toNat = l.length + 1 from by omega]
    refine lc_range (lo := 0) (n := l.length + 1) (fun i H' => Same H H' ∧ ∃ rs : List Addr, rs.length = i ∧ rs.Nodup ∧ D ∉ rs ∧ (∀ a ∈ rs, H a = none) ∧ H' D = some (.lst (rs.map V.ref)) ∧ ∀ a ∈ rs, H' a = some (.lst []))
      ⟨same_upd hD, [], rfl, List.nodup_nil, (fun z => nomatch z), (fun _ z => nomatch z), upd_same, fun _ z => nomatch z⟩ ?_ ?_
    · rintro i H' il ⟨s1, rs, h1, h2, h3, h4, h5, h6⟩
      walk_at "tx"
      refine ⟨by show 0 ≤ sizeLine; decide, fun p hp => ?_⟩
      have np : p ≠ D := (ne_of_none h5 hp).symm
      refine ⟨rs.map V.ref, by rw [upd_ne np.symm]; exact h5, by rw [List.length_map, h1]; exact Nat.lt_of_lt_of_le il (Nat.le_trans (by omega : l.length + 1 ≤ 1001) (by decide)), ?_⟩
      have hp0 := s1.free hp
      exact ⟨fun b u e => by rw [upd_ne (ne_of_none e hD), upd_ne (ne_of_none e hp0)]; exact s1 _ _ e, rs ++ [p], RowsX.zero h1 h2 h3 h4 h5 h6 hp hp0 np⟩
    · rintro H1 ⟨s1, rs, h1, h2, h3, h4, h5, h6⟩
      have R0 : RowsX H H1 D (l.length + 1) (fun _ => []) := ⟨rs, h1, h2, h3, h4, h5, fun i a e => h6 a (List.mem_of_getElem? e)⟩
      clear h1 h2 h3 h4 h5 h6
      walk_at "tx"
      refine OQ.d_seqVar2 rfl sa s1 (fun J G hw hG => ?_)
      refine RD.f_it hw (fun kk σ' H' => Same H H' ∧ (∃ rows, RowsX H H' D (l.length + 1) rows ∧ WW.LkJ rows (WW.LkG ws l kk 0) ws.Nodup (kk * (l.length + 1))) ∧ ∃ v3 v4 v5 v6 v7 : Option V, σ' = [some (.ref a), some (.str (WW.S l)), some (.ref D), v3, v4, v5, v6, v7])
        ⟨s1, ⟨_, R0, WW.LkJ.zero.iff (fun _ _ => Iff.rfl) (Nat.zero_le _)⟩, none, none, none, none, none, rfl⟩ (fun kk σ' H' _ q => hG _ q.1) ?_ ?_
      · rintro kk y σ' H2' H2 hkk ⟨s2, ⟨rows, R, I⟩, v3, v4, v5, v6, v7, rfl⟩ ⟨rfl, hy⟩
        obtain ⟨wd, ew, rfl⟩ := WW.Ss_get hy
        have mw := List.mem_of_getElem? ew
        have wne := ok.ne wd mw
        have wz := ok.sz wd mw
        have w1 : 0 < wd.length := List.length_pos_iff.mpr wne
        have kl : kk < ws.length := (List.getElem?_eq_some_iff.mp ew).1
        have bnd : ∀ j, WW.Hit l j wd → j + wd.length ≤ l.length := fun j h => h.bound wne
        have K1 : (kk + 1) * (l.length + 1) = kk * (l.length + 1) + (l.length + 1) := Nat.succ_mul _ _
        have Kb : (kk + 1) * (l.length + 1) ≤ 1000 * 1001 := Nat.mul_le_mul (Nat.le_trans kl ok.many) (by omega)
        generalize hM : kk * (l.length + 1) = M at *
        walk_at "tx"
        refine ⟨RD.tyS, ?_⟩
        walk_at "tx"
        refine RD.d_find1 wne (fun v nx => ?_)
        walk_at "tx"
        have start : ∀ (lo : Nat) (rows : Nat → List Nat) (v : Int), WW.Nx l wd lo v → lo ≤ l.length + 1 → WW.LkJ rows (WW.LkG ws l kk lo) ws.Nodup (M + lo) →
            ∃ lo', lo ≤ lo' ∧ WW.LkJ rows (WW.LkG ws l kk lo') ws.Nodup (M + lo') ∧ ((v = lo' ∧ WW.Hit l lo' wd ∧ lo' ≤ l.length) ∨ (v = -1 ∧ lo' = l.length + 1)) := by
          rintro lo rows v (⟨i, rfl, h1, h2, h3⟩ | ⟨rfl, h1⟩) hlo I
          · exact ⟨i, h1, I.iff (fun a b => WW.LkG.skip ew h1 h3 a b) (by omega), .inl ⟨rfl, h2, by have := bnd i h2; omega⟩⟩
          · exact ⟨l.length + 1, hlo, I.iff (fun a b => WW.LkG.skip ew hlo (fun j j1 _ => h1 j j1) a b) (by omega), .inr ⟨rfl, rfl⟩⟩
        obtain ⟨lo, h0lo, I, hv⟩ := start 0 rows v nx (Nat.zero_le _) (I.iff (fun _ _ => Iff.rfl) (Nat.le_refl _))
        refine ⟨fun m σ' H' => ∃ (lo : Nat) (rows : Nat → List Nat) (v : Int), m = l.length + 1 - lo ∧ Same H H' ∧ RowsX H H' D (l.length + 1) rows ∧ WW.LkJ rows (WW.LkG ws l kk lo) ws.Nodup (M + lo) ∧ ((v = lo ∧ WW.Hit l lo wd ∧ lo ≤ l.length) ∨ (v = -1 ∧ lo = l.length + 1)) ∧
          ∃ v6 v7 : Option V, σ' = [some (.ref a), some (.str (WW.S l)), some (.ref D), v3, some (.str (WW.S wd)), some (.int v), v6, v7], ⟨_, lo, rows, v, rfl, s2, R, I, hv, v6, v7, rfl⟩, ?_⟩
        rintro m σ' H3 ⟨lo, rows, v, rfl, s3, R, I, hv, v6, v7, rfl⟩
        walk_at "tx"
        rcases hv with ⟨rfl, hit, hlo⟩ | ⟨rfl, rfl⟩
        · rw [decide_eq_true (by omega : (lo : Int) ≥ 0)]
          refine RD.d_iteT ?_
          have hb := bnd lo hit
          have n1 : ws.Nodup → ¬ WW.LkG ws l kk lo lo (lo + wd.length) := fun nd => (WW.LkG.new nd ok.ne ew hit).1
          have n2 : ws.Nodup → ¬ WW.LkG ws l kk lo (lo + wd.length) lo := fun nd => (WW.LkG.new nd ok.ne ew hit).2
          have I' := I.add (a := lo) (b := lo + wd.length) (by omega) n1 n2
          have len41 := I.len
          refine ⟨fun σ' H' => ∃ (lo' : Nat) (rows : Nat → List Nat) (v : Int), lo < lo' ∧ Same H H' ∧ RowsX H H' D (l.length + 1) rows ∧ WW.LkJ rows (WW.LkG ws l kk lo') ws.Nodup (M + lo') ∧ ((v = lo' ∧ WW.Hit l lo' wd ∧ lo' ≤ l.length) ∨ (v = -1 ∧ lo' = l.length + 1)) ∧
            ∃ v6 v7 : Option V, σ' = [some (.ref a), some (.str (WW.S l)), some (.ref D), v3, some (.str (WW.S wd)), some (.int v), v6, v7], ?_, ?_⟩
          · rintro σ' H' ⟨lo', rows, v, lt, rest⟩
            exact ⟨_, (by omega : l.length + 1 - lo' < l.length + 1 - lo), lo', rows, v, rfl, rest⟩
          · walk_at "tx"
            refine RD.d_bm ?_
            walk_at "tx"
            refine RowsX.row R (i := lo) (by omega) (by omega) (fun a1 ea Ra sa1 => ?_)
            refine ⟨RD.tyL ea, ?_⟩
            walk_at "tx"
            rw [show ((lo : Int) + wd.length) = ((lo + wd.length : Nat) : Int) from by omega]
            have s24 : 1001 * 1000 + 1001 < sizeLine := by decide
            refine RD.d_app ea (by rw [WW.Ns_len]; have := len41 lo; omega) ?_
            rw [WW.Ns_app]
            replace Ra := Ra (lo + wd.length)
            have ga := sa1 (.lst (Ns (rows lo ++ [lo + wd.length]))) s3
            generalize upd H3 a1 (.lst (Ns (rows lo ++ [lo + wd.length]))) = H4 at *
            walk_at "tx"
            refine RD.d_bm ?_
            walk_at "tx"
            refine RowsX.row Ra (i := lo + wd.length) (by omega) (by omega) (fun a2 ea2 Ra2 sa2 => ?_)
            refine ⟨RD.tyL ea2, ?_⟩
            walk_at "tx"
            have e2 : WW.push rows lo (lo + wd.length) (lo + wd.length) = rows (lo + wd.length) := if_neg (by omega)
            refine RD.d_app ea2 (by rw [WW.Ns_len, e2]; have := len41 (lo + wd.length); omega) ?_
            rw [WW.Ns_app]
            have ga2 := sa2 (.lst (Ns (WW.push rows lo (lo + wd.length) (lo + wd.length) ++ [lo]))) ga
            replace Ra2 := Ra2 lo
            generalize upd H4 a2 (.lst (Ns (WW.push rows lo (lo + wd.length) (lo + wd.length) ++ [lo]))) = H5 at *
            walk_at "tx"
            refine ⟨RD.tyS, ?_⟩
            walk_at "tx"
            refine RD.d_find2 wne (show ((lo : Int) + 1) = ((lo + 1 : Nat) : Int) from by omega) (fun v nx => ?_)
            obtain ⟨lo', h1, I2, hv⟩ := start (lo + 1) _ v nx (by omega) (I'.iff (fun i j => WW.LkG.hit ew hit i j) (Nat.le_refl _))
            walk_at "tx"
            exact ⟨lo', _, v, h1, ga2, Ra2, I2, hv, _, _, rfl⟩
        · refine RD.iteD (fun c => absurd c (by omega)) (fun _ => ?_)
          rw [K1]
          refine ⟨s3, ⟨rows, R, I.iff (fun i j => WW.LkG.next ew (fun j j1 z => by have := bnd j z; omega)) (Nat.le_refl _)⟩, _, _, _, _, _, rfl⟩
      · rintro σ' H2 ⟨s2, ⟨rows, R, I⟩, v3, v4, v5, v6, v7, rfl⟩
        rw [WW.Ss_len] at I
        walk_at "tx"
        replace I := I.iff (fun i j => (WW.LkG.all (i := i) (j := j)).symm) (Nat.le_refl _)
        obtain ⟨rs, h1, h2, h3, h4, h5, h6⟩ := R
        refine ⟨D, rfl, ⟨_, SqL.of h5⟩, fun D2 hD2 => ?_⟩
        have hD2' := s2.free hD2
        refine lc_list (K := K) (a := D) (xs := rs.map V.ref) (fun i H' => Same H2 H' ∧ ∃ (qs : List Addr) (out : Nat → List Nat), qs.length = i ∧ H' D2 = some (.lst (qs.map V.ref)) ∧ (D2 ∉ qs ∧ ∀ q ∈ qs, H2 q = none) ∧
            (∀ (j : Nat) (a : Addr), qs[j]? = some a → H' a = some (.lst (Ns (out j)))) ∧ ∀ j, j < i → (out j).Perm (rows j) ∧ (out j).Pairwise (· ≤ ·))
          ⟨same_upd hD2, [], fun _ => [], rfl, upd_same, ⟨(fun z => nomatch z), (fun _ z => nomatch z)⟩, (fun _ _ z => nomatch z), fun _ z => nomatch z⟩ ?_ ?_ ?_
        · rintro i H' _ ⟨s3, _⟩
          exact SqL.of (s3 _ _ h5)
        · rintro i y H' hi ⟨s3, qs, out, g1, g2, g3, g4, g5⟩
          rw [List.getElem?_map] at hi
          cases ea : rs[i]? with
          | none => rw [ea] at hi; cases hi
          | some a =>
            rw [ea] at hi
            cases hi
            have il : i < l.length + 1 := by have := (List.getElem?_eq_some_iff.mp ea).1; omega
            have ra := s3 _ _ (h6 i a ea)
            walk_at "tx"
            refine ⟨a, (rows i).map fun (j : Nat) => (j : Int), rfl, SqL.of (by rw [ra]; unfold Ns; rw [List.map_map]; rfl), fun ns p pm so hp => ?_⟩
            obtain ⟨q, rfl, mq, uq⟩ := WW.sorted_natsG pm so
            have np : p ≠ D2 := (ne_of_none g2 hp).symm
            refine ⟨qs.map V.ref, by rw [upd_ne np.symm]; exact g2, by rw [List.length_map, g1]; exact Nat.lt_of_lt_of_le il (Nat.le_trans (by omega : l.length + 1 ≤ 1001) (by decide)), fun b u e => ?_, qs ++ [p], (fun j => if j = i then q else out j), by rw [List.length_append, g1]; rfl, ?_, ?_, ?_, ?_⟩
            · have := s3 _ _ e
              rw [upd_ne (ne_of_none e hD2), upd_ne (ne_of_none this hp)]; exact this
            · rw [upd_same, List.map_append]; rfl
            · refine ⟨fun m => ?_, fun b m => ?_⟩
              · rcases List.mem_append.mp m with m | m
                · exact g3.1 m
                · exact np (List.mem_singleton.mp m).symm
              · rcases List.mem_append.mp m with m | m
                · exact g3.2 b m
                · rw [List.mem_singleton.mp m]; exact s3.free hp
            · intro j b e
              by_cases c : j = i
              · subst c
                rw [List.getElem?_append_right (by omega), g1, Nat.sub_self] at e
                cases e
                rw [upd_ne np, upd_same]
                simp only [if_pos]
                unfold Ns
                rw [List.map_map]; rfl
              · have jl : j < qs.length := by
                  have := (List.getElem?_eq_some_iff.mp e).1
                  rw [List.length_append, List.length_singleton] at this; omega
                rw [List.getElem?_append_left jl] at e
                have nb : b ≠ D2 := fun z => g3.1 (z ▸ List.mem_of_getElem? e)
                rw [upd_ne nb, upd_ne (ne_of_none (g4 j b e) hp)]
                simp only [if_neg c]
                exact g4 j b e
            · intro j jl
              by_cases c : j = i
              · subst c
                simp only [if_pos]
                exact ⟨mq, uq⟩
              · simp only [if_neg c]
                exact g5 j (by omega)
        · rintro H' ⟨s3, qs, out, g1, g2, g3, g4, g5⟩
          rw [List.length_map, h1] at g1 g5
          refine k H' D2 (fun j => if j < l.length + 1 then out j else []) (s2.trans s3) ⟨hD2', fun rs' e a m => ?_⟩ ⟨qs, g1, g2, fun i a e => ?_⟩ ⟨fun i j => ?_, fun i => ?_, fun nd i => ?_⟩
          · rw [g2] at e
            have e' : qs.map V.ref = rs'.map V.ref := (HO.lst.inj (Option.some.inj e))
            have m' : V.ref a ∈ rs'.map V.ref := List.mem_map.mpr ⟨a, m, rfl⟩
            rw [← e'] at m'
            obtain ⟨q, mq, eq⟩ := List.mem_map.mp m'
            cases eq
            exact s2.free (g3.2 _ mq)
          · have c : i < l.length + 1 := by have := (List.getElem?_eq_some_iff.mp e).1; omega
            simp only [if_pos c]
            exact g4 i a e
          · by_cases c : i < l.length + 1
            · simp only [if_pos c]
              rw [(g5 i c).1.mem_iff, I.mem]
            · simp only [if_neg c]
              exact ⟨fun z => (nomatch z), fun z => by have := (WW.Link.le ok.ne z).1; omega⟩
          · by_cases c : i < l.length + 1
            · simp only [if_pos c]; exact (g5 i c).2
            · simp only [if_neg c]; exact .nil
          · by_cases c : i < l.length + 1
            · simp only [if_pos c]; exact (g5 i c).1.nodup_iff.mpr (I.nd nd i)
            · simp only [if_neg c]; exact .nil
end

/-! ### the steps to a spot -/
open WW (Ns)
theorem d_disp {trs : List (TE × TE)} {σ : L2.St} {H : Hp} {Q : VK} (h : ∀ p, H p = none → tPairs trs σ (upd H p (.dK [])) fun ps H2 => H2 p = some (.dK []) ∧ ∃ kvs : List (Key × V), ps = kvs.map (fun kv => (kV kv.1, kv.2)) ∧ kvs.length ≤ 15 ∧ Q (.ref p) (upd H2 p (.dK (mergeK [] kvs)))) : tDisp trs σ H Q := h
def spSteps (K : PySem.W.Frag) : Sp := fun vs H Q _ => ∃ (L : Addr) (n g : Nat) (rows : Nat → List Nat), vs = [.ref L, .int g] ∧ RowsAt H L n rows ∧ (∀ i j, j ∈ rows i → j < n) ∧ g < n ∧ n ≤ 900 ∧
  ∀ H' d ps, Same H H' → H d = none → H' d = some (.dK (WW.Dk ps)) → (∀ v r, WW.look ps v = some r ↔ WW.Ds (fun i j => j ∈ rows i) g r v) → (ps.map (·.1)).Nodup → Q (.ref d) H'
theorem RowsAt.ix {K : PySem.W.Frag} {H0 H : Hp} {L : Addr} {n i : Nat} {rows : Nat → List Nat} {iv : Int} {Q : VK} (h : RowsAt H0 L n rows) (s : Same H0 H) (hi : i < n) (e : iv = i) (k : ∀ a, H0 a = some (.lst (Ns (rows i))) → Q (.ref a) H) : rIxL K (.ref L) (.int iv) H Q := by
  subst e
  obtain ⟨rs, h1, h2, h3⟩ := h
  have il : i < rs.length := by rw [h1]; exact hi
  have ea : rs[i]? = some rs[i] := List.getElem?_eq_getElem il
  exact RD.d_ixL (SqL.of (s _ _ h2)) (atI_nat (by rw [List.getElem?_map, ea]; rfl)) (k _ (h3 i _ ea))
section
variable {P : Program} {w : World} {K : PySem.W.Frag} {mg : Str → Option Value} {base : Heap}
theorem ok_steps_to (T : Top K mg) : FnOk P w K mg base CX0 1 T.f_steps_to T.fd_steps_to ["links", "goal"] (spSteps K) := by
  refine T.F_steps_to.ok sc_steps_to (fun vs H Q E h => ?_) (fun cdv A outer s H vs Q E hr h => ?_)
  · obtain ⟨L, n, g, rows, rfl, _⟩ := h; rfl
  · obtain ⟨L, n, g, rows, rfl, R, lt, hg, n41, k⟩ := h
    refine ⟨_, (pss_cons (ps_set (i := 2) sc_steps_to.nd rfl (Or.inl rfl) (pe_disp (pps_cons (pv 1) pe_int pps_nil) (by rfl) (by rfl) (by simp) (by decide)))
 (pss_cons (ps_set (i := 3) sc_steps_to.nd rfl (Or.inl rfl) (pe_lst (pa_cons (pv 1) pa_nil)))
 (pss_cons (ps_while PassesOwn.never (pt_truth (pv 3) (fun _ => rfl))
 (pss_cons (ps_set (i := 4) sc_steps_to.nd rfl (Or.inl rfl) (pe_lst pa_nil))
 (pss_cons (ps_for PassesOwn.never rfl (pi_list (pv 3)) (pg_name (i := 5) sc_steps_to.nd rfl (Or.inl rfl))
 (pss_one (ps_for PassesOwn.never rfl (pi_list (pe_ix ix_list (pv 0) (pv 5) (fun _ _ => rfl))) (pg_name (i := 6) sc_steps_to.nd rfl (Or.inl rfl))
 (pss_one (ps_if (pt_cmp (pc_dnotin (hu_of hr) (pv 6) (pv 2)))
 (pss_cons (ps_dput (hu_of hr) (pv 2) (pv 6) (pe_op op_add (pe_dget (hu_of hr) (pv 2) (pv 5) (fun _ _ => rfl)) pe_int) rfl)
 (pss_one (ps_expr (pe_bm PySem.F.plainAttrs_list PySem.F.slot_list_append PySem.F.type_list_append mt_append (pv 4) (pa_cons (pv 6) pa_nil)))))
 pss_nil)))))
 (pss_one (ps_set (i := 3) sc_steps_to.nd rfl (Or.inl rfl) (pv 4))))))
 (pss_one (ps_ret (pv 2)))))), ?_⟩
    walk_at "tx"
    refine d_disp (fun d hd => ?_)
    refine ⟨_, rfl, upd_same, [(Sum.inl (g : Int), .int 0)], rfl, (by show 1 ≤ 15; decide), ?_⟩
    rw [upd_upd, show mergeK [] [(Sum.inl (g : Int), V.int 0)] = WW.Dk [(g, 0)] from rfl]
    have s1 := same_upd (o := HO.dK (WW.Dk [(g, 0)])) hd
    have e1 : upd H d (.dK (WW.Dk [(g, 0)])) d = some (.dK (WW.Dk [(g, 0)])) := upd_same
    generalize upd H d (.dK (WW.Dk [(g, 0)])) = H1 at *
    walk_at "tx"
    refine ⟨by show 1 ≤ sizeLine; decide, fun fa hfa => ?_⟩
    have s2 := s1.trans (same_upd (o := HO.lst [V.int (g : Nat)]) hfa)
    have e2 : upd H1 fa (.lst [V.int (g : Nat)]) d = some (.dK (WW.Dk [(g, 0)])) := by rw [upd_ne (ne_of_none e1 hfa)]; exact e1
    have e3 : upd H1 fa (.lst [V.int (g : Nat)]) fa = some (.lst (Ns [g])) := upd_same
    generalize upd H1 fa (.lst [V.int (g : Nat)]) = H2 at *
    walk_at "tx"
    let E : Nat → Nat → Prop := fun i j => j ∈ rows i
    refine ⟨fun m σ' H' => ∃ r ps ring fa, m = (n - ps.length) + (if ring = [] then 0 else 1) ∧ Same H H' ∧ H' d = some (.dK (WW.Dk ps)) ∧ H' fa = some (.lst (Ns ring)) ∧ WW.Bo E g n r ps ring ∧ ∃ v4 v5 v6 : Option V, σ' = [some (.ref L), some (.int g), some (.ref d), some (.ref fa), v4, v5, v6],
      ⟨_, 0, [(g, 0)], [g], fa, rfl, s2, e2, e3, WW.Bo.zero hg, none, none, none, rfl⟩, ?_⟩
    clear e3 e2 s2 hfa e1 s1 H2 H1 fa
    rintro m σ' H' ⟨r, ps, ring, fa, rfl, s1, e1, e2, B, v4, v5, v6, rfl⟩
    walk_at "tx"
    refine ⟨_, .inl ⟨_, SqL.of e2, rfl⟩, ?_⟩
    have er : (Ns ring).isEmpty = ring.isEmpty := by cases ring <;> rfl
    rw [er]
    cases ring with
    | nil =>
      refine RD.d_iteF ?_
      walk_at "tx"
      exact k H' d ps s1 hd e1 B.end_ B.nd
    | cons r0 rr =>
      refine RD.d_iteT ?_
      have rne : ¬ (r0 :: rr = []) := by simp
      generalize hring : r0 :: rr = ring at *
      clear hring er
      refine ⟨fun σ' H' => ∃ ps' far fb, (n - ps'.length) + (if far = [] then 0 else 1) < (n - ps.length) + (if ring = [] then 0 else 1) ∧ Same H H' ∧ H' d = some (.dK (WW.Dk ps')) ∧ H' fb = some (.lst (Ns far)) ∧ WW.Bo E g n (r + 1) ps' far ∧ ∃ v4 v5 v6 : Option V, σ' = [some (.ref L), some (.int g), some (.ref d), some (.ref fb), v4, v5, v6], ?_, ?_⟩
      · rintro σ' H' ⟨ps', far, fb, lt', h1, h2, h3, h4, v4, v5, v6, rfl⟩
        exact ⟨_, lt', r + 1, ps', far, fb, rfl, h1, h2, h3, h4, v4, v5, v6, rfl⟩
      · walk_at "tx"
        refine ⟨by show 0 ≤ sizeLine; decide, fun fb hfb => ?_⟩
        have hfb0 := s1.free hfb
        have nbd : d ≠ fb := ne_of_none e1 hfb
        have nba : fa ≠ fb := ne_of_none e2 hfb
        have nad : fa ≠ d := fun z => by subst z; rw [e1] at e2; cases e2
        have s2 : Same H (upd H' fb (.lst [])) := s1.trans (same_upd hfb)
        have f1 : upd H' fb (.lst []) d = some (.dK (WW.Dk ps)) := by rw [upd_ne nbd]; exact e1
        have f2 : upd H' fb (.lst []) fa = some (.lst (Ns ring)) := by rw [upd_ne nba]; exact e2
        have f3 : upd H' fb (.lst []) fb = some (.lst (Ns [])) := upd_same
        generalize upd H' fb (.lst []) = H2 at *
        walk_at "tx"
        refine RD.f_list (K := K) (a := fa) (xs := Ns ring) (fun a σ' H' => Same H H' ∧ H' fa = some (.lst (Ns ring)) ∧ (∃ ps' far, H' d = some (.dK (WW.Dk ps')) ∧ H' fb = some (.lst (Ns far)) ∧ ps'.length = ps.length + far.length ∧ WW.Bf E g n r ps' far (fun v => ∃ i, i < a ∧ ∃ u, ring[i]? = some u ∧ E u v)) ∧
            ∃ v5 v6 : Option V, σ' = [some (.ref L), some (.int g), some (.ref d), some (.ref fa), some (.ref fb), v5, v6])
          ⟨s2, f2, ⟨ps, [], f1, f3, rfl, B.begin.iff fun v => by simp⟩, v5, v6, rfl⟩ ?_ ?_ ?_
        · rintro a σ' H' _ ⟨_, q, _⟩
          exact SqL.of q
        · rintro a y σ' H3 hy ⟨s3, g2, ⟨ps', far, g1, g3, gl, C⟩, v5, v6, rfl⟩
          obtain ⟨u, hu, rfl⟩ := WW.Ns_get hy
          have du : WW.Ds E g r u := (B.ring u).mp (List.mem_of_getElem? hu)
          have un : u < n := by
            have := C.here du
            obtain ⟨p, mp, rfl⟩ : ∃ p ∈ ps', p.1 = u := by
              have : ¬ u ∉ ps'.map (·.1) := fun z => by rw [WW.look_none.mpr z] at this; cases this
              obtain ⟨p, mp, e⟩ := List.mem_map.mp (Classical.not_not.mp this)
              exact ⟨p, mp, e⟩
            exact C.lt p mp
          walk_at "tx"
          refine RowsAt.ix R s3 un rfl (fun ra hra0 => ?_)
          have hra := s3 _ _ hra0
          refine ⟨ra, rfl, ⟨_, SqL.of hra⟩, ?_⟩
          have nrd : ra ≠ d := ne_of_none hra0 hd
          have nrb : ra ≠ fb := ne_of_none hra0 hfb0
          refine RD.f_list (K := K) (a := ra) (xs := Ns (rows u)) (fun b σ' H' => Same H H' ∧ H' fa = some (.lst (Ns ring)) ∧ H' ra = some (.lst (Ns (rows u))) ∧ (∃ ps' far, H' d = some (.dK (WW.Dk ps')) ∧ H' fb = some (.lst (Ns far)) ∧ ps'.length = ps.length + far.length ∧
                WW.Bf E g n r ps' far (fun v => (∃ i, i < a ∧ ∃ u, ring[i]? = some u ∧ E u v) ∨ ∃ j, j < b ∧ (rows u)[j]? = some v)) ∧
              ∃ v6 : Option V, σ' = [some (.ref L), some (.int g), some (.ref d), some (.ref fa), some (.ref fb), some (.int u), v6])
            ⟨s3, g2, hra, ⟨ps', far, g1, g3, gl, C.iff fun v => by simp⟩, v6, rfl⟩ ?_ ?_ ?_
          · rintro b σ' H' _ ⟨_, _, q, _⟩
            exact SqL.of q
          · rintro b y σ' H4 hy ⟨s4, i2, ira, ⟨ps2, far2, i1, i3, il, D⟩, v6, rfl⟩
            obtain ⟨v, hv, rfl⟩ := WW.Ns_get hy
            have ev : E u v := List.mem_of_getElem? hv
            have seen : ∀ w, ((∃ i, i < a ∧ ∃ u, ring[i]? = some u ∧ E u w) ∨ ∃ j, j < b + 1 ∧ (rows u)[j]? = some w) ↔ ((∃ i, i < a ∧ ∃ u, ring[i]? = some u ∧ E u w) ∨ ∃ j, j < b ∧ (rows u)[j]? = some w) ∨ w = v := fun w => by
              constructor
              · rintro (z | ⟨j, jl, ej⟩)
                · exact .inl (.inl z)
                · by_cases c : j = b
                  · subst c; rw [hv] at ej; cases ej; exact .inr rfl
                  · exact .inl (.inr ⟨j, by omega, ej⟩)
              · rintro ((z | ⟨j, jl, ej⟩) | rfl)
                · exact .inl z
                · exact .inr ⟨j, by omega, ej⟩
                · exact .inr ⟨b, by omega, hv⟩
            walk_at "tx"
            refine ⟨d, _, rfl, DGet.k (k := Sum.inl (v : Int)) i1, _, rfl, ?_⟩
            rw [WW.valV_Dk]
            cases ev2 : WW.look ps2 v with
            | some dd =>
              refine RD.d_iteF ?_
              walk_at "tx"
              exact ⟨s4, i2, ira, ⟨ps2, far2, i1, i3, il, (D.old (by rw [ev2]; simp)).iff seen⟩, _, rfl⟩
            | none =>
              refine RD.d_iteT ?_
              have len2 := D.len
              have sz : ps2.length < sizeLine := Nat.lt_of_le_of_lt (Nat.le_trans len2 n41) (by decide)
              have nbd' : fb ≠ d := nbd.symm
              walk_at "tx"
              refine RD.d_dput ?_
              walk_at "tx"
              refine ⟨d, _, rfl, .inl ⟨WW.Dk ps2, Sum.inl (u : Int), .inl i1, rfl, by rw [WW.valV_Dk, D.here du]; rfl⟩, ?_⟩
              walk_at "tx"
              refine ⟨d, _, rfl, DPut.k (k := Sum.inl (v : Int)) i1 (by unfold WW.Dk; rw [List.length_map]; exact sz), ?_⟩
              rw [show V.int ((r : Int) + 1) = V.int ((r + 1 : Nat) : Int) from rfl, WW.Dk_put ev2]
              have s5 : Same H (upd H4 d (.dK (WW.Dk (ps2 ++ [(v, r + 1)])))) := fun b o e => by rw [upd_ne (ne_of_none e hd)]; exact s4 _ _ e
              have j1 : upd H4 d (.dK (WW.Dk (ps2 ++ [(v, r + 1)]))) d = some (.dK (WW.Dk (ps2 ++ [(v, r + 1)]))) := upd_same
              have j2 : upd H4 d (.dK (WW.Dk (ps2 ++ [(v, r + 1)]))) fa = some (.lst (Ns ring)) := by rw [upd_ne nad]; exact i2
              have j3 : upd H4 d (.dK (WW.Dk (ps2 ++ [(v, r + 1)]))) fb = some (.lst (Ns far2)) := by rw [upd_ne nbd']; exact i3
              have j4 : upd H4 d (.dK (WW.Dk (ps2 ++ [(v, r + 1)]))) ra = some (.lst (Ns (rows u))) := by rw [upd_ne nrd]; exact ira
              generalize upd H4 d (.dK (WW.Dk (ps2 ++ [(v, r + 1)]))) = H5 at *
              walk_at "tx"
              refine ⟨RD.tyL j3, ?_⟩
              walk_at "tx"
              refine RD.d_app j3 (by rw [WW.Ns_len]; omega) ?_
              rw [WW.Ns_app]
              refine ⟨fun b o e => by rw [upd_ne (ne_of_none e hfb0)]; exact s5 _ _ e, by rw [upd_ne nba]; exact j2, by rw [upd_ne nrb]; exact j4, ⟨_, _, by rw [upd_ne nbd]; exact j1, upd_same, ?_, (D.new du ev (lt _ _ ev) ev2).iff seen⟩, _, rfl⟩
              rw [List.length_append, List.length_append, il]; simp; omega
          · rintro σ' H4 ⟨s4, i2, ira, ⟨ps2, far2, i1, i3, il, D⟩, v6, rfl⟩
            refine ⟨s4, i2, ⟨ps2, far2, i1, i3, il, D.iff fun w => ?_⟩, _, _, rfl⟩
            rw [WW.Ns_len]
            constructor
            · rintro ⟨i, il', z, ez, q⟩
              by_cases c : i = a
              · subst c
                rw [hu] at ez; cases ez
                obtain ⟨j, hj⟩ := List.getElem?_of_mem q
                exact .inr ⟨j, (List.getElem?_eq_some_iff.mp hj).1, hj⟩
              · exact .inl ⟨i, by omega, z, ez, q⟩
            · rintro (⟨i, il', z, ez, q⟩ | ⟨j, jl, ej⟩)
              · exact ⟨i, by omega, z, ez, q⟩
              · exact ⟨a, by omega, u, hu, List.mem_of_getElem? ej⟩
        · rintro σ' H3 ⟨s3, g2, ⟨ps', far, g1, g3, gl, C⟩, v5, v6, rfl⟩
          rw [WW.Ns_len] at C
          have lenp := C.len
          walk_at "tx"
          refine ⟨ps', far, fb, ?_, s3, g1, g3, C.done B.ring (fun u v mu e => ?_), _, _, _, rfl⟩
          · rw [if_neg rne]
            by_cases c : far = []
            · subst c
              rw [if_pos rfl]
              simp at gl
              omega
            · rw [if_neg c]
              have : 0 < far.length := List.length_pos_iff.mpr c
              omega
          · obtain ⟨i, hi⟩ := List.getElem?_of_mem mu
            exact ⟨i, (List.getElem?_eq_some_iff.mp hi).1, u, hi, e⟩
end

/-! ### told words -/
theorem told_look {ws : List WW.Wd} {l : WW.Wd} {rows : Nat → List Nat} {ps : List (Nat × Nat)} (h : LksG ws l rows) (hp : ∀ v r, WW.look ps v = some r ↔ WW.Ds (fun i j => j ∈ rows i) 0 r v) : (WW.look ps l.length).isSome = true ↔ WW.Told ws l := by
  have eq : ∀ u v, (v ∈ rows u) ↔ WW.Link ws l u v := h.mem
  constructor
  · intro k
    obtain ⟨r, e⟩ := Option.isSome_iff_exists.mp k
    exact WW.Rc.mono (fun u v z => (eq u v).mp z) ⟨r, ((hp _ r).mp e).1⟩
  · intro k
    obtain ⟨r, d⟩ := (WW.Rc.mono (fun u v z => (eq u v).mpr z) k).ds
    rw [(hp _ r).mpr d]; rfl
def spLeads (K : PySem.W.Frag) : Sp := fun vs H Q _ => ∃ (a : Addr) (ws : List WW.Wd) (l : WW.Wd), vs = [.ref a, .str (WW.S l)] ∧ OQ.SeqAt K H a (WW.Ss ws) ∧ Okp ws l ∧ l.length ≤ 800 ∧
  ∀ b H', Same H H' → (b = true ↔ WW.Told ws l) → Q (.bl b) H'
section
variable {P : Program} {w : World} {K : PySem.W.Frag} {mg : Str → Option Value} {base : Heap}
theorem ok_leads_through (T : Top K mg) : FnOk P w K mg base CX0 2 T.f_leads_through T.fd_leads_through ["pieces", "word"] (spLeads K) := by
  refine T.F_leads_through.ok sc_leads_through (fun vs H Q E h => ?_) (fun cdv A outer s H vs Q E hr h => ?_)
  · obtain ⟨a, ws, l, rfl, _⟩ := h; rfl
  · obtain ⟨a, ws, l, rfl, sa, ok, l40, k⟩ := h
    have hz : l.length ≤ sizeLine := Nat.le_trans l40 (by decide)
    refine ⟨_, (pss_one (ps_ret (pe_cmp (pc_din (hu_of hr) (pe_callB RD.c_len (by rfl) T.n_len (by decide +kernel) (pa_cons (pv 1) pa_nil)) (pe_call (ok_steps_to T) (hr.mono (by decide)) (by rfl) T.g_steps_to T.F_steps_to.kp T.b_steps_to .nil pass0 (pa_cons (pe_call (ok_links_through T) (hr.mono (by decide)) (by rfl) T.g_links_through T.F_links_through.kp T.b_links_through .nil pass0 (pa_cons (pv 0) (pa_cons (pv 1) pa_nil))) (pa_cons pe_int pa_nil)))) rfl))), ?_⟩
    walk_at "tx"
    refine ⟨a, ws, l, rfl, sa, ok, fun H2 L rows s2 hL R lk => ?_⟩
    walk_at "tx"
    refine ⟨L, l.length + 1, 0, rows, rfl, R, fun i j m => ?_, by omega, by omega, fun H3 d ps s3 hd ed hp _ => ?_⟩
    · have := (((lk.mem i j).mp m).le ok.ne).2.1
      omega
    · refine ⟨d, _, rfl, DGet.k (k := Sum.inl (l.length : Int)) ed, ?_⟩
      have e : (valV (WW.Dk ps) (Sum.inl (l.length : Int))).isSome = (WW.look ps l.length).isSome := by
        rw [WW.valV_Dk ps l.length, Option.isSome_map]
      rw [e]
      exact k _ _ (s2.trans s3) (told_look lk hp)
end

/-! ### lone lengths -/
open WW (Ns)
open LO (Rch St gcdL)
/-- lengths that may be asked -/
structure Okl (ls : List Nat) : Prop where
  ne : 1 ≤ ls.length
  l8 : ls.length ≤ 8
  lo : ∀ l ∈ ls, 1 ≤ l
  hi : ∀ l ∈ ls, l ≤ 60
theorem Ns_int (ls : List Nat) : Ns ls = (ls.map fun j : Nat => (j : Int)).map V.int := by unfold WW.Ns; rw [List.map_map]; rfl
theorem OQ.SeqAt.row {K : PySem.W.Frag} {H : Hp} {a : Addr} {xs : List V} (h : OQ.SeqAt K H a xs) : ∃ t, TyX K H (.ref a) t ∧ PySem.W.kitAny K t [.type "list", .type "tuple"] = some true := by
  rcases h with ((h | ⟨o, h⟩) | ⟨o, _, _, h, c, _⟩) | ((h | ⟨o, h⟩) | ⟨o, _, _, h, c, _⟩)
  · exact ⟨_, .base (.lst h), kitA_list⟩
  · exact ⟨_, .base (.frz h), kitA_list⟩
  · exact ⟨_, .kList h c, kitA_list⟩
  · exact ⟨_, .base (.tup h), kitA_tuple⟩
  · exact ⟨_, .fTuple h, kitA_tuple⟩
  · exact ⟨_, .kTuple h c, kitA_tuple⟩
theorem same_put {H H' : Hp} {D : Addr} {o : HO} (s : Same H H') (hD : H D = none) : Same H (upd H' D o) := fun b u e => by
  rw [upd_ne (ne_of_none e hD)]; exact s _ _ e
theorem piece_rep {n i l : Nat} (h : i + l ≤ n) : WW.piece (List.replicate n 97) i (i + l) = List.replicate l 97 := by
  unfold WW.piece
  rw [List.drop_replicate, List.take_replicate]
  congr 1
  omega
theorem link_st {ls : List Nat} {n i j : Nat} (lo : ∀ l ∈ ls, 1 ≤ l) : WW.Link (ls.map fun l => List.replicate l 97) (List.replicate n 97) i j ↔ St ls n i j := by
  have ne : ∀ w ∈ ls.map fun l => List.replicate l 97, w ≠ [] := fun w m e => by
    obtain ⟨l, ml, rfl⟩ := List.mem_map.mp m
    have := lo l ml
    have := congrArg List.length e
    simp at this
    omega
  constructor
  · intro h
    obtain ⟨h1, h2, _⟩ := h.le ne
    rw [List.length_replicate] at h1 h2
    obtain ⟨w, m, h⟩ := h
    obtain ⟨l, ml, rfl⟩ := List.mem_map.mp m
    rw [List.length_replicate] at h
    exact ⟨h1, h2, l, ml, h.imp (fun q => q.2) fun q => q.2⟩
  · rintro ⟨h1, h2, l, ml, e⟩
    refine ⟨_, List.mem_map.mpr ⟨l, ml, rfl⟩, ?_⟩
    unfold WW.Hit
    rw [List.length_replicate]
    exact e.imp (fun e => ⟨piece_rep (by omega), e⟩) fun e => ⟨piece_rep (by omega), e⟩
theorem told_rch {ls : List Nat} {n : Nat} (lo : ∀ l ∈ ls, 1 ≤ l) : WW.Told (ls.map fun l => List.replicate l 97) (List.replicate n 97) ↔ Rch ls n := by
  unfold WW.Told Rch
  rw [List.length_replicate]
  exact ⟨WW.Rc.mono fun u v h => (link_st lo).mp h, WW.Rc.mono fun u v h => (link_st lo).mpr h⟩
def spLens (K : PySem.W.Frag) (Q0 : Addr → List Nat → Hp → VK → Prop) : Sp := fun vs H Q _ => ∃ (a : Addr) (ls : List Nat), vs = [.ref a] ∧ OQ.SeqAt K H a (Ns ls) ∧ Okl ls ∧ Q0 a ls H Q
def spLst (K : PySem.W.Frag) : Sp := fun vs H Q _ => ∃ (a : Addr) (ls : List Nat) (last : Nat), vs = [.ref a, .int last] ∧ OQ.SeqAt K H a (Ns ls) ∧ Okl ls ∧ 1 ≤ last ∧ last ≤ 10 ^ 30 ∧ ∀ b H', Same H H' → (b = true ↔ Rch ls last) → Q (.bl b) H'
section
variable {P : Program} {w : World} {K : PySem.W.Frag} {mg : Str → Option Value} {base : Heap} {H : Hp}
theorem ok_shared_divisor (T : Top K mg) : FnOk P w K mg base CX0 1 T.f_shared_divisor T.fd_shared_divisor ["lengths"] (spLens K fun _ ls H Q => Q (.int (gcdL ls : Nat)) H) := by
  refine T.F_shared_divisor.ok sc_shared_divisor (fun vs H Q E h => ?_) (fun cdv A outer s H vs Q E hr h => ?_)
  · obtain ⟨a, ls, rfl, _⟩ := h; rfl
  · obtain ⟨a, ls, rfl, sa, ok, k⟩ := h
    refine ⟨_, (pss_cons (ps_set (i := 1) sc_shared_divisor.nd rfl (Or.inl rfl) pe_int)
 (pss_cons (ps_for PassesOwn.never rfl (OQ.pi_seq (pv 0)) (pg_name (i := 2) sc_shared_divisor.nd rfl (Or.inl rfl))
 (pss_one (ps_set (i := 1) sc_shared_divisor.nd rfl (Or.inl rfl) (pe_callBfun cr_gcd (by rfl) T.g_gcd (pa_cons (pv 1) (pa_cons (pv 2) pa_nil))))))
 (pss_one (ps_ret (pv 1))))), ?_⟩
    walk_at "tx"
    refine OQ.d_seqVar rfl sa (fun J G hw hG => ?_)
    refine RD.f_it hw (fun i σ' H' => H' = H ∧ ∃ v : Option V, σ' = [some (.ref a), some (.int ((ls.take i).foldl Nat.gcd 0 : Nat)), v]) ⟨rfl, _, rfl⟩ (fun i σ' H' _ q => by rw [q.1]; exact hG _ (Same.refl _)) ?_ ?_
    · rintro i y σ' H' H'' il ⟨rfl, v, rfl⟩ ⟨rfl, hy⟩
      obtain ⟨l, el, rfl⟩ := WW.Ns_get hy
      walk_at "tx"
      refine ⟨rfl, some (.int (l : Nat)), ?_⟩
      rw [List.take_succ, el, List.foldl_append]
      rfl
    · rintro σ' H' ⟨rfl, v, rfl⟩
      walk_at "tx"
      rw [WW.Ns_len, List.take_length]
      exact k
theorem last_two (m : List Int) : cutV (m.map V.int) (some (-2)) none = (m.drop (m.length - 2)).map V.int := by
  have e : HT.sIx (m.map V.int).length 0 (some (-2)) = m.length - 2 := by
    rw [List.length_map]
    unfold HT.sIx
    simp
    omega
  unfold cutV
  rw [e, List.map_drop, List.take_of_length_le]
  rw [List.length_drop, List.length_map]
  show _ ≤ m.length - _
  omega
theorem nat_ints {ns : List Int} {ls : List Nat} (p : ns.Perm (ls.map fun j : Nat => (j : Int))) (so : ns.Pairwise (· ≤ ·)) : ∃ s : List Nat, ns = s.map (fun j : Nat => (j : Int)) ∧ s.Perm ls ∧ s.Pairwise (· ≤ ·) := by
  have back : ns = (ns.map Int.toNat).map (fun j : Nat => (j : Int)) := by
    rw [List.map_map]
    refine (List.map_id ns).symm.trans (List.map_congr_left fun x m => ?_)
    obtain ⟨j, _, rfl⟩ := List.mem_map.mp (p.mem_iff.mp m)
    simp
  refine ⟨ns.map Int.toNat, back, ?_, ?_⟩
  · have := p.map Int.toNat
    rw [List.map_map, show (Int.toNat ∘ fun j : Nat => (j : Int)) = id from funext fun j => Int.toNat_natCast j, List.map_id] at this
    exact this
  · rw [back, List.pairwise_map] at so
    exact so.imp fun h => by omega
theorem sum_int (s : List Nat) : (s.map fun j : Nat => (j : Int)).sum = ((s.sum : Nat) : Int) := by
  induction s with
  | nil => rfl
  | cons x s ih => rw [List.map_cons, List.sum_cons, List.sum_cons, ih]; omega
theorem ok_all_told_from (T : Top K mg) : FnOk P w K mg base CX0 1 T.f_all_told_from T.fd_all_told_from ["lengths"] (spLens K fun _ ls H Q => ∀ (s : List Nat) H', s.Perm ls → s.Pairwise (· ≤ ·) → Same H H' → Q (.int ((s.drop (s.length - 2)).sum : Nat)) H') := by
  refine T.F_all_told_from.ok sc_all_told_from (fun vs H Q E h => ?_) (fun cdv A outer s H vs Q E hr h => ?_)
  · obtain ⟨a, ls, rfl, _⟩ := h; rfl
  · obtain ⟨a, ls, rfl, sa, ok, k⟩ := h
    refine ⟨_, (pss_one (ps_ret (pe_callB (cr_sum rfl) (by rfl) T.n_sum (by decide +kernel) (pa_cons (pe_slice sl_list (pe_callB (OQ.cr_orC cr_sortedI OQ.cr_sortedT) (by rfl) T.n_sorted (by decide +kernel) (pa_cons (pv 0) pa_nil)) (po_some (pe_un un_neg pe_int)) po_none) pa_nil)))), ?_⟩
    walk_at "tx"
    have go : ∀ (ms : List Int) (p : Addr), ms.Perm (ls.map fun j : Nat => (j : Int)) → ms.Pairwise (· ≤ ·) → H p = none →
        rSlL K (.ref p) (some (-2)) none (upd H p (.lst (ms.map V.int))) fun x H1 => rSum K [x] H1 Q := fun ms p pm so hp => by
      obtain ⟨s, rfl, ps, ss⟩ := nat_ints pm so
      have s1 := same_upd (o := HO.lst ((s.map fun j : Nat => (j : Int)).map V.int)) hp
      refine ⟨p, _, rfl, SqL.of upd_same, fun D hD => ?_⟩
      rw [last_two]
      refine ⟨D, _, rfl, SqL.of upd_same, ?_⟩
      rw [List.length_map, ← List.map_drop, sum_int]
      exact k s _ ps ss (s1.trans (same_upd hD))
    rcases sa with sl | st
    · rw [Ns_int] at sl
      refine .inl ⟨a, _, rfl, sl, fun ms p pm so hp => ?_⟩
      walk_at "tx"
      exact go ms p pm so hp
    · rw [Ns_int] at st
      refine .inr ⟨a, _, rfl, st, fun ms p pm so hp => ?_⟩
      walk_at "tx"
      exact go ms p pm so hp
theorem ok_leads_to (T : Top K mg) : FnOk P w K mg base CX0 4 T.f_leads_to T.fd_leads_to ["lengths", "last"] (spLst K) := by
  refine T.F_leads_to.ok sc_leads_to (fun vs H Q E h => ?_) (fun cdv A outer s H vs Q E hr h => ?_)
  · obtain ⟨a, ls, last, rfl, _⟩ := h; rfl
  · obtain ⟨a, ls, last, rfl, sa, ok, l1, l30, k⟩ := h
    refine ⟨_, (pss_cons (ps_if (pt_cmpR op_ge (pv 1) (pe_call (ok_all_told_from T) (hr.mono (by decide)) (by rfl) T.g_all_told_from T.F_all_told_from.kp T.b_all_told_from .nil pass0 (pa_cons (pv 0) pa_nil)) (nomark _))
 (pss_one (ps_ret (pe_cmpR op_eq (pe_op op_mod (pv 1) (pe_call (ok_shared_divisor T) (hr.mono (by decide)) (by rfl) T.g_shared_divisor T.F_shared_divisor.kp T.b_shared_divisor .nil pass0 (pa_cons (pv 0) pa_nil))) pe_int (nomark _))))
 pss_nil)
 (pss_one (ps_ret (pe_call (ok_leads_through T) (hr.mono (by decide)) (by rfl) T.g_leads_through T.F_leads_through.kp T.b_leads_through .nil pass0 (pa_cons (pe_lc (own := [("length", 2)]) (g := (gName 2)) (tt := tYes) rfl sc_leads_to.nd (OQ.pi_seq (pv 0)) (blkOk_by (own := [("length", 2)]) (N := ["lengths", "last", "length"]) (sc := defScope s_leads_to) (by decide +kernel)) (fun _ _ _ _ _ => (pg_name (i := 2) sc_leads_to.nd rfl (Or.inl rfl))) (fun _ _ _ _ _ => pts_nil) (fun _ _ _ _ _ => (pe_op OQ.o_mulS pe_str (pv 2)))) (pa_cons (pe_op OQ.o_mulS pe_str (pv 1)) pa_nil)))))), ?_⟩
    walk_at "tx"
    refine ⟨a, ls, rfl, sa, ok, fun s H1 ps ss s1 => ?_⟩
    replace sa := OQ.SeqAt.same sa s1
    walk_at "tx"
    refine RD.iteD (fun c => ?_) (fun c => ?_)
    · have big := LO.top_sum ss ps (L := last) (by omega)
      walk_at "tx"
      refine ⟨a, ls, rfl, sa, ok, ?_⟩
      have g0 : 0 < gcdL ls := by
        match ls, ok.ne, ok.lo with
        | l :: ls, _, lo => exact Nat.pos_of_dvd_of_pos ((LO.fold_dvd (l :: ls) 0).2 l (List.mem_cons_self ..)) (lo l (List.mem_cons_self ..))
      show rI (fun _ j => 0 < j) (fun i j => V.int (i % j)) (V.int last) (V.int (gcdL ls : Nat)) _ _
      refine ⟨_, _, rfl, rfl, by omega, ?_⟩
      walk_at "tx"
      refine k _ _ s1 ?_
      rw [decide_eq_true_eq, big, Nat.dvd_iff_mod_eq_zero]
      omega
    · walk_at "tx"
      have n120 : (s.drop (s.length - 2)).sum ≤ 120 := by
        have b : ∀ q : List Nat, (∀ x ∈ q, x ≤ 60) → q.sum ≤ 60 * q.length := fun q => by
          induction q with
          | nil => intro _; simp
          | cons x q ih =>
            intro h
            have h1 := ih fun y m => h y (List.mem_cons_of_mem _ m)
            have h2 := h x (List.mem_cons_self ..)
            rw [List.sum_cons, List.length_cons]
            omega
        have := b (s.drop (s.length - 2)) fun x m => ok.hi x (ps.mem_iff.mp (List.mem_of_mem_drop m))
        rw [List.length_drop] at this
        omega
      have l120 : last < 120 := by omega
      refine OQ.d_seqVar rfl sa (fun J G hw hG => fun D hD => ?_)
      rw [WW.Ns_len] at hw
      refine lc_it hw (fun i H' => Same H1 H' ∧ H' D = some (.lst (WW.Ss ((ls.take i).map fun l => List.replicate l 97)))) ⟨same_upd hD, upd_same⟩ (fun i H' _ q => hG _ q.1) ?_ ?_
      · rintro i y H' H'' il ⟨s2, eD⟩ ⟨rfl, hy⟩
        obtain ⟨l, el, rfl⟩ := WW.Ns_get hy
        have ml := List.mem_of_getElem? el
        have l60 := ok.hi l ml
        have l01 := ok.lo l ml
        walk_at "tx"
        refine ⟨[97], l, rfl, rfl, by omega, by omega, by decide, ?_⟩
        refine ⟨_, eD, ?_, same_put s2 hD, ?_⟩
        · rw [WW.Ss_len, List.length_map, List.length_take]
          exact Nat.lt_of_le_of_lt (by have := ok.l8; omega : _ ≤ 8) (by decide)
        · rw [upd_same, List.take_succ, el, List.map_append, WW.Ss_app]
          simp
      rintro H2 ⟨s2, eD⟩
      rw [List.take_length] at eD
      walk_at "tx"
      refine ⟨[97], last, rfl, rfl, by omega, by omega, by decide, ?_⟩
      rw [show (List.replicate (last : Int).toNat [97]).flatten = List.replicate last 97 by simp]
      walk_at "tx"
      refine ⟨D, _, _, rfl, .inl (SqL.of eD), ⟨?_, ?_, ?_, ?_⟩, ?_, fun b H3 s3 e => k b H3 ((s1.trans s2).trans s3) (e.trans ?_)⟩
      · intro w m e
        obtain ⟨l, ml, rfl⟩ := List.mem_map.mp m
        have := ok.lo l ml
        have := congrArg List.length e
        simp at this
        omega
      · intro w m
        obtain ⟨l, ml, rfl⟩ := List.mem_map.mp m
        rw [List.length_replicate]
        exact Nat.le_trans (ok.hi l ml) (by decide)
      · rw [List.length_map]
        have := ok.l8
        omega
      · rw [List.length_replicate]; omega
      · rw [List.length_replicate]; omega
      · exact told_rch ok.lo
end

/-! ### lone lengths, and what is none -/
open WW (Ns)
open LO (Rch St gcdL)
/-- whether x is a number from 1 to m -/
def Num1 (K : PySem.W.Frag) (H : Hp) (m : Nat) (x : V) (b : Bool) : Prop := (∃ i : Int, x = .int i ∧ b = decide (1 ≤ i ∧ i ≤ m)) ∨ (IsI K H x false ∧ b = false)
theorem Num1.same {K : PySem.W.Frag} {H H' : Hp} {m : Nat} {x : V} {b : Bool} (h : Num1 K H m x b) (s : Same H H') : Num1 K H' m x b := h.imp id fun h => ⟨by obtain ⟨t, b1, b2, ty, r⟩ := h.1; exact ⟨t, b1, b2, tyX_same ty s, r⟩, h.2⟩
theorem Num1.nat {K : PySem.W.Frag} {H : Hp} {m : Nat} {x : V} (h : Num1 K H m x true) : ∃ l : Nat, x = .int l ∧ 1 ≤ l ∧ l ≤ m := by
  rcases h with ⟨i, rfl, e⟩ | ⟨_, e⟩
  · have := of_decide_eq_true e.symm
    exact ⟨i.toNat, by rw [Int.toNat_of_nonneg (by omega)], by omega, by omega⟩
  · cases e
/-- the first thing of lengths that is wrong: its place, or -1 -/
def BadLn (K : PySem.W.Frag) (H : Hp) (v : V) (i : Int) : Prop := (i = -1 ∧ ∃ t, TyX K H v t ∧ PySem.W.kitAny K t [.type "list", .type "tuple"] = some false) ∨
  ∃ a xs, v = .ref a ∧ OQ.SeqAt K H a xs ∧ ((i = -1 ∧ ¬ (1 ≤ xs.length ∧ xs.length ≤ 8)) ∨ (1 ≤ xs.length ∧ xs.length ≤ 8 ∧ ∃ k : Nat, i = k ∧ (∀ j y, j < k → xs[j]? = some y → Num1 K H 60 y true) ∧ ∃ y, xs[k]? = some y ∧ Num1 K H 60 y false))
theorem BadLn.same {K : PySem.W.Frag} {H H' : Hp} {v : V} {i : Int} (h : BadLn K H v i) (s : Same H H') : BadLn K H' v i := by
  rcases h with ⟨e, t, ty, k⟩ | ⟨a, xs, e, sa, h⟩
  · exact .inl ⟨e, t, tyX_same ty s, k⟩
  · refine .inr ⟨a, xs, e, OQ.SeqAt.same sa s, h.imp id ?_⟩
    rintro ⟨h1, h2, k, e, h3, y, h4, h5⟩
    exact ⟨h1, h2, k, e, fun j y hj ej => (h3 j y hj ej).same s, y, h4, h5.same s⟩
/-- lengths handed to a def: right ones, or wrong ones -/
def spLnE (K : PySem.W.Frag) (C : Addr) (more : List V) (Q0 : Addr → List Nat → Hp → VK → XK → Prop) : Sp := fun vs H Q E => ∃ v, vs = v :: more ∧ ((∃ (a : Addr) (ls : List Nat), v = .ref a ∧ OQ.SeqAt K H a (Ns ls) ∧ Okl ls ∧ Q0 a ls H Q E) ∨
  ∃ i, BadLn K H v i ∧ ∀ d H', Same H H' → H' d = none → E (.ref C) (some d) (upd H' d (ErrD (.int i))))
section
variable {P : Program} {w : World} {K : PySem.W.Frag} {mg : Str → Option Value} {base : Heap} {H : Hp}
theorem ok_check_lengths (T : Top K mg) : FnOk P w K mg base (L2.CX P w) 6 T.f_check_lengths T.fd_check_lengths ["lengths"] (spLnE K T.C_BadLengths [] fun _ ls H Q _ => ∀ H', Same H H' → Q .non H') := by
  refine T.F_check_lengths.okX sc_check_lengths (fun vs H Q E h => ?_) (fun cdv A outer s H vs Q E hr h => ?_)
  · obtain ⟨v, rfl, _⟩ := h; rfl
  · obtain ⟨v, rfl, h⟩ := h
    refine ⟨_, (pss_cons (ps_if (PW.pt (pw_or (pt_not (pt_val (pe_call (ok_is_row T) (hr.mono (by decide)) (by rfl) T.g_is_row T.F_is_row.kp T.b_is_row .nil pass0 (pa_cons (pv 0) pa_nil)))) (pw_or1 (pt_not (pt_chain op_le op_le pe_int (pe_callB RD.c_len (by rfl) T.n_len (by decide +kernel) (pa_cons (pv 0) pa_nil)) (pe_glob (v := V.int 8) (by rfl) T.g_MOST_LENGTHS ⟨_, rfl⟩))))))
 (pss_one (ps_raise rfl (takes_of rfl rfl rfl rfl) (pmk_oex T.oex_BadLengths T.i_BadLengths T.tI (ok_WayError__init T) (hr.mono (by decide)) T.b_WayError__init .nil pass0 (by rfl) T.g_BadLengths (pa_cons (pe_un un_neg pe_int) pa_nil))))
 pss_nil)
 (pss_one (ps_for (passes_of rfl) rfl (OQ.pi_or (pi_enum (by rfl) T.n_enumerate (pa_cons (pv 0) pa_nil)) (OQ.pi_enumT (by rfl) T.n_enumerate (pa_cons (pv 0) pa_nil))) (pg_tup (by rfl) (pgs_cons (pg_name (i := 1) sc_check_lengths.nd rfl (Or.inl rfl)) (pgs_cons (pg_name (i := 2) sc_check_lengths.nd rfl (Or.inl rfl)) pgs_nil)))
 (pss_one (ps_if (PW.pt (pw_or (pt_not (pt_val (pe_call (ok_is_integer T) (hr.mono (by decide)) (by rfl) T.g_is_integer T.F_is_integer.kp T.b_is_integer .nil pass0 (pa_cons (pv 2) pa_nil)))) (pw_or1 (pt_not (pt_chain op_le op_le pe_int (pv 2) (pe_glob (v := V.int 60) (by rfl) T.g_MOST_LENGTH ⟨_, rfl⟩))))))
 (pss_one (ps_raise rfl (takes_of rfl rfl rfl rfl) (pmk_oex T.oex_BadLengths T.i_BadLengths T.tI (ok_WayError__init T) (hr.mono (by decide)) T.b_WayError__init .nil pass0 (by rfl) T.g_BadLengths (pa_cons (pv 1) pa_nil))))
 pss_nil))))), ?_⟩
    walk_at "tx"
    have good : ∀ {a : Addr} {xs : List V} {H1 : Hp}, True := fun {_ _ _} => trivial
    rcases h with ⟨a, ls, rfl, sa, ok, k⟩ | ⟨i, (⟨rfl, t, ty, kt⟩ | ⟨a, xs, rfl, sa, h⟩), kE⟩
    · obtain ⟨t, ty, kt⟩ := OQ.SeqAt.row sa
      refine ⟨.ref a, t, true, rfl, ty, kt, fun H1 s1 => ?_⟩
      replace sa := OQ.SeqAt.same sa s1
      refine ⟨true, rfl, RD.d_iteNT ?_⟩
      walk_at "tx"
      have n8 := ok.l8
      have n1 := ok.ne
      refine OQ.SeqAt.len sa ?_
      rw [WW.Ns_len]
      walk_at "tx"
      rw [decide_eq_true (by omega : (1 : Int) ≤ ls.length)]
      walk_at "tx"
      rw [decide_eq_true (by omega : (ls.length : Int) ≤ 8)]
      walk_at "tx"
      refine OQ.d_enumVar rfl sa (fun J G hw hG => ?_)
      refine RD.f_it hw (fun i σ' H' => Same H1 H' ∧ ∃ v1 v2 : Option V, σ' = [some (.ref a), v1, v2]) ⟨Same.refl _, none, none, rfl⟩ (fun i σ' H' _ q => hG _ q.1) ?_ ?_
      · rintro i y σ' H' H'' il ⟨s3, v1, v2, rfl⟩ ⟨p, u, v, rfl, hp, rfl, e1, e2⟩
        cases e1
        obtain ⟨l, el, rfl⟩ := WW.Ns_get e2
        have ml := List.mem_of_getElem? el
        have l60 := ok.hi l ml
        have l01 := ok.lo l ml
        have s4 := s3.trans (same_upd (o := HO.tup [V.int (i : Nat), V.int (l : Nat)]) hp)
        have ep : upd H' p (.tup [V.int (i : Nat), V.int (l : Nat)]) p = some (.tup [V.int (i : Nat), V.int (l : Nat)]) := upd_same
        generalize upd H' p (.tup [V.int (i : Nat), V.int (l : Nat)]) = H4 at *
        refine RD.d_two rfl (SqT.of ep) ?_
        walk_at "tx"
        refine ⟨.int l, true, rfl, isI_int _, ?_⟩
        refine ⟨true, rfl, RD.d_iteNT ?_⟩
        walk_at "tx"
        refine RD.d_chain ?_
        walk_at "tx"
        rw [decide_eq_true (by omega : (1 : Int) ≤ l)]
        walk_at "tx"
        rw [decide_eq_true (by omega : (l : Int) ≤ 60)]
        walk_at "tx"
        exact ⟨s4, _, _, rfl⟩
      · rintro σ' H' ⟨s3, v1, v2, rfl⟩
        walk_at "tx"
        exact k _ (s1.trans s3)
    · refine ⟨v, t, false, rfl, ty, kt, fun H1 s1 => ?_⟩
      refine ⟨false, rfl, RD.d_iteNF ?_⟩
      walk_at "tx"
      refine d_raise ?_
      walk_at "tx"
      exact d_mkO T.oex_BadLengths T.v_BadLengths fun d hd => kE d _ s1 hd
    · obtain ⟨t, ty, kt⟩ := OQ.SeqAt.row sa
      refine ⟨.ref a, t, true, rfl, ty, kt, fun H1 s1 => ?_⟩
      replace sa := OQ.SeqAt.same sa s1
      refine ⟨true, rfl, RD.d_iteNT ?_⟩
      walk_at "tx"
      refine OQ.SeqAt.len sa ?_
      walk_at "tx"
      rcases h with ⟨rfl, nl⟩ | ⟨n1, n8, kk, rfl, pre, y, ey, by'⟩
      · refine RD.iteD (fun c1 => ?_) (fun c1 => ?_)
        · walk_at "tx"
          refine RD.iteN (fun c2 => ?_) (fun c2 => absurd ⟨by omega, by omega⟩ nl)
          walk_at "tx"
          refine d_raise ?_
          walk_at "tx"
          exact d_mkO T.oex_BadLengths T.v_BadLengths fun d hd => kE d _ s1 hd
        · walk_at "tx"
          refine d_raise ?_
          walk_at "tx"
          exact d_mkO T.oex_BadLengths T.v_BadLengths fun d hd => kE d _ s1 hd
      · rw [decide_eq_true (by omega : (1 : Int) ≤ xs.length)]
        walk_at "tx"
        rw [decide_eq_true (by omega : (xs.length : Int) ≤ 8)]
        walk_at "tx"
        refine OQ.d_enumVar rfl sa (fun J G hw hG => ?_)
        have kl : kk < xs.length := (List.getElem?_eq_some_iff.mp ey).1
        refine RD.f_it hw (fun i σ' H' => i ≤ kk ∧ Same H1 H' ∧ ∃ v1 v2 : Option V, σ' = [some (.ref a), v1, v2]) ⟨Nat.zero_le _, Same.refl _, none, none, rfl⟩ (fun i σ' H' _ q => hG _ q.2.1) ?_ ?_
        · rintro i z σ' H' H'' il ⟨ik, s3, v1, v2, rfl⟩ ⟨p, u, v, rfl, hp, rfl, e1, e2⟩
          cases e1
          have s4 := s3.trans (same_upd (o := HO.tup [V.int (i : Nat), v]) hp)
          have ep : upd H' p (.tup [V.int (i : Nat), v]) p = some (.tup [V.int (i : Nat), v]) := upd_same
          generalize upd H' p (.tup [V.int (i : Nat), v]) = H4 at *
          refine RD.d_two rfl (SqT.of ep) ?_
          have e2 : xs[i]? = some v := e2
          by_cases c : i = kk
          · subst c
            rw [ey] at e2
            cases e2
            have bad := (by'.same s1).same s4
            walk_at "tx"
            rcases bad with ⟨x, rfl, e⟩ | ⟨ii, _⟩
            · refine ⟨.int x, true, rfl, isI_int _, ?_⟩
              refine ⟨true, rfl, RD.d_iteNT ?_⟩
              walk_at "tx"
              refine RD.d_chain ?_
              walk_at "tx"
              have ne := of_decide_eq_false e.symm
              refine RD.iteD (fun c1 => ?_) (fun c1 => ?_)
              · walk_at "tx"
                refine RD.iteN (fun c2 => ?_) (fun c2 => absurd ⟨c1, c2⟩ ne)
                walk_at "tx"
                exact d_mkO T.oex_BadLengths T.v_BadLengths fun d hd => kE d _ (s1.trans s4) hd
              · walk_at "tx"
                exact d_mkO T.oex_BadLengths T.v_BadLengths fun d hd => kE d _ (s1.trans s4) hd
            · refine ⟨y, false, rfl, ii, ?_⟩
              refine ⟨false, rfl, RD.d_iteNF ?_⟩
              walk_at "tx"
              exact d_mkO T.oex_BadLengths T.v_BadLengths fun d hd => kE d _ (s1.trans s4) hd
          · obtain ⟨l, rfl, l01, l60⟩ := (pre i v (by omega) e2).nat
            walk_at "tx"
            refine ⟨.int l, true, rfl, isI_int _, ?_⟩
            refine ⟨true, rfl, RD.d_iteNT ?_⟩
            walk_at "tx"
            refine RD.d_chain ?_
            walk_at "tx"
            rw [decide_eq_true (by omega : (1 : Int) ≤ l)]
            walk_at "tx"
            rw [decide_eq_true (by omega : (l : Int) ≤ 60)]
            walk_at "tx"
            exact ⟨by omega, s4, _, _, rfl⟩
        · rintro σ' H' ⟨ik, s3, v1, v2, rfl⟩
          omega
end

/-! ### the tape, kept -/
theorem But.trans {h : Addr} {H H1 H2 : Hp} (a : But h H H1) (b : But h H1 H2) : But h H H2 := fun c n => (b c n).trans (a c n)
theorem But.rfl' {h : Addr} {H : Hp} : But h H H := fun _ _ => rfl
theorem But.kp {h : Addr} {H H' : Hp} (b : But h H H') : Kx h H H' := fun c o n e => by rw [b c n]; exact e
theorem TapeAt.same {H H' : Hp} {h c : Addr} (x : TapeAt H h c) (s : Same H H') : TapeAt H' h c := by
  obtain ⟨cs, p, q, m, n, e1, e2, ne, hp⟩ := x
  exact ⟨cs, p, q, m, n, s _ _ e1, s _ _ e2, ne, hp⟩
theorem TapeAt.ne {H : Hp} {h c q : Addr} {o : HO} (x : TapeAt H h c) (e : H q = some o) (n : ∀ p q m n : Int, o ≠ .lst [.ref c, .int p, .int q, .int m, .int n]) : q ≠ h := by
  rintro rfl
  obtain ⟨cs, p, q, m, n', e1, e2, ne, hp⟩ := x
  rw [e] at e1
  exact n _ _ _ _ (Option.some.inj e1)
theorem TapeAt.free {H : Hp} {h c p : Addr} (x : TapeAt H h c) (hp : H p = none) : p ≠ h ∧ p ≠ c := by
  obtain ⟨cs, p, q, m, n', e1, e2, ne, hp⟩ := x
  exact ⟨(ne_of_none e1 (by assumption)).symm, (ne_of_none e2 (by assumption)).symm⟩
theorem TapeAt.upd {H : Hp} {h c p : Addr} {o : HO} (x : TapeAt H h c) (n : p ≠ h) (m : p ≠ c) : TapeAt (upd H p o) h c := by
  obtain ⟨cs, p1, q, m1, n', e1, e2, ne, hp⟩ := x
  exact ⟨cs, p1, q, m1, n', by rw [upd_ne n.symm]; exact e1, by rw [upd_ne m.symm]; exact e2, ne, hp⟩
theorem Kx.fresh {h p : Addr} {H H' : Hp} {o : HO} (k : Kx h H H') (hp : H p = none) : Kx h H (upd H' p o) := fun b u n e => by
  rw [upd_ne (ne_of_none e hp)]; exact k b u n e
theorem log2_lt {i : Int} (k : i.natAbs < 1000000) : i.natAbs.log2 < 9000 := by
  by_cases z : i.natAbs = 0
  · rw [z]; decide
  · exact Nat.lt_trans ((Nat.log2_lt z).mpr (Nat.lt_trans k (by decide : 1000000 < 2 ^ 64))) (by decide)

/-! ### the law's own divisor and reach -/
open WW (Ns)
open LO (Rch St gcdL)
def spCom : Sp := fun vs H Q _ => ∃ a b : Nat, vs = [.int a, .int b] ∧ b ≤ 90 ∧ Q (.int (Nat.gcd a b : Nat)) H
def spLsL (Q0 : Addr → List Nat → Hp → VK → Prop) : Sp := fun vs H Q _ => ∃ (a : Addr) (ls : List Nat), vs = [.ref a] ∧ H a = some (.lst (Ns ls)) ∧ Okl ls ∧ Q0 a ls H Q
def spRch : Sp := fun vs H Q _ => ∃ (a : Addr) (ls : List Nat) (last : Nat), vs = [.ref a, .int last] ∧ H a = some (.lst (Ns ls)) ∧ Okl ls ∧ last ≤ 200 ∧ ∀ b H', Same H H' → (b = true ↔ Rch ls last) → Q (.bl b) H'
/-- the flags of what is reached -/
def mf (R : List Nat) (n : Nat) : List V := (List.range (n + 1)).map fun v => V.bl (decide (v ∈ R))
theorem mf_len {R : List Nat} {n : Nat} : (mf R n).length = n + 1 := by unfold mf; rw [List.length_map, List.length_range]
theorem mf_get {R : List Nat} {n v : Nat} (h : v ≤ n) : (mf R n)[v]? = some (.bl (decide (v ∈ R))) := by
  unfold mf
  rw [List.getElem?_map, List.getElem?_range (by omega)]; rfl
theorem mf_set {R : List Nat} {n v : Nat} (h : v ≤ n) : (mf R n).set v (.bl true) = mf (R ++ [v]) n := by
  apply List.ext_getElem?
  intro j
  rw [List.getElem?_set]
  by_cases e : v = j
  · subst e
    rw [if_pos rfl, if_pos (by rw [mf_len]; omega), mf_get h, decide_eq_true (by simp)]
  · rw [if_neg e]
    by_cases hj : j ≤ n
    · rw [mf_get hj, mf_get hj]
      congr 2
      rw [decide_eq_decide, List.mem_append, List.mem_singleton]
      exact ⟨.inl, fun q => q.elim id fun q => absurd q.symm e⟩
    · rw [List.getElem?_eq_none (by rw [mf_len]; omega), List.getElem?_eq_none (by rw [mf_len]; omega)]
theorem mf_rep {n : Nat} : (List.replicate ((n : Int) + 1).toNat [V.bl false]).flatten = mf [] n := by
  rw [show ((n : Int) + 1).toNat = n + 1 by omega]
  apply List.ext_getElem?
  intro j
  by_cases hj : j ≤ n
  · rw [mf_get hj, List.flatten_replicate_singleton, List.getElem?_replicate, if_pos (by omega)]; rfl
  · rw [List.getElem?_eq_none (by rw [List.flatten_replicate_singleton, List.length_replicate]; omega), List.getElem?_eq_none (by rw [mf_len]; omega)]
theorem ix_nat {n v : Nat} (h : v < n) : ixN n (v : Int) = some v := by
  unfold ixN
  rw [if_pos (by omega), if_pos (by omega)]
  simp
/-- what is reached so far -/
structure Rd (ls : List Nat) (n : Nat) (R : List Nat) : Prop where
  nd : R.Nodup
  ok : ∀ v ∈ R, v ≤ n ∧ WW.Rc (St ls n) 0 v
  z : 0 ∈ R
theorem Rd.len {ls : List Nat} {n : Nat} {R : List Nat} (h : Rd ls n R) : R.length ≤ n + 1 := WW.nodup_len (n + 1) R h.nd fun v m => by have := (h.ok v m).1; omega
theorem Rd.add {ls : List Nat} {n : Nat} {R : List Nat} {x v : Nat} (h : Rd ls n R) (mx : x ∈ R) (e : St ls n x v) (nv : v ∉ R) : Rd ls n (R ++ [v]) := by
  refine ⟨WW.nodup_snoc h.nd nv, fun u m => ?_, List.mem_append.mpr (.inl h.z)⟩
  rcases List.mem_append.mp m with m | m
  · exact h.ok u m
  · rw [List.mem_singleton.mp m]
    exact ⟨e.2.1, WW.Rc.trans (h.ok x mx).2 (WW.Rc.one e)⟩
/-- all steps from the first k of them are reached, too -/
def Seen (ls : List Nat) (n k : Nat) (R : List Nat) : Prop := ∀ t u, t < k → R[t]? = some u → ∀ j, St ls n u j → j ∈ R
theorem Seen.add {ls : List Nat} {n k : Nat} {R : List Nat} {v : Nat} (h : Seen ls n k R) (hk : k ≤ R.length) : Seen ls n k (R ++ [v]) := fun t u ht e j s => by
  rw [List.getElem?_append_left (by omega)] at e
  exact List.mem_append.mpr (.inl (h t u ht e j s))
theorem Rd.rch {ls : List Nat} {n k : Nat} {R : List Nat} (h : Rd ls n R) (s : Seen ls n k R) (hk : R.length ≤ k) : n ∈ R ↔ Rch ls n := by
  refine ⟨fun m => (h.ok n m).2, fun q => ?_⟩
  have all : ∀ r v, WW.Wk (St ls n) 0 r v → v ∈ R := fun r => by
    induction r with
    | zero => intro v e; rw [show v = 0 from e]; exact h.z
    | succ r ih =>
      rintro v ⟨u, h1, h2⟩
      obtain ⟨t, et⟩ := List.getElem?_of_mem (ih u h1)
      exact s t u (Nat.lt_of_lt_of_le (List.getElem?_eq_some_iff.mp et).1 hk) et v h2
  obtain ⟨r, q⟩ := q
  exact all r n q
section
variable {P : Program} {w : World} {K : PySem.W.Frag} {mg : Str → Option Value} {base : Heap} {H : Hp}
theorem ok_law_common (T : Top K mg) : FnOk P w K mg base CX0 1 T.f_law_common T.fd_law_common ["one", "other"] spCom := by
  refine T.F_law_common.ok sc_law_common (fun vs H Q E h => ?_) (fun cdv A outer s H vs Q E hr h => ?_)
  · obtain ⟨a, b, rfl, _⟩ := h; rfl
  · obtain ⟨a, b, rfl, b60, k⟩ := h
    refine ⟨_, (pss_cons (ps_for PassesOwn.never rfl (pi_range1 (by rfl) T.n_range (pa_cons pe_int pa_nil)) (pg_name (i := 2) sc_law_common.nd rfl (Or.inl rfl))
 (pss_cons (ps_if (pt_cmpR op_eq (pv 1) pe_int (nomark _))
 (pss_one (ps_ret (pv 0)))
 pss_nil)
 (pss_cons (ps_set (i := 3) sc_law_common.nd rfl (Or.inl rfl) (pe_op op_mod (pe_callTy RD.c_int (by rfl) T.n_int (by decide +kernel) (pa_cons (pv 0) pa_nil)) (pv 1)))
 (pss_cons (ps_set (i := 0) sc_law_common.nd rfl (Or.inl rfl) (pv 1))
 (pss_one (ps_set (i := 1) sc_law_common.nd rfl (Or.inl rfl) (pv 3)))))))
 (pss_one (ps_ret (pv 0)))), ?_⟩
    walk_at "tx"
    refine ⟨100, rfl, by omega, by omega, ?_⟩
    refine RD.f_range (lo := 0) (n := (100 : Int).toNat) (fun i σ' H' => H' = H ∧ ∃ (x y : Nat) (v2 v3 : Option V), Nat.gcd x y = Nat.gcd a b ∧ y + i ≤ b ∧ σ' = [some (.int x), some (.int y), v2, v3]) ⟨rfl, a, b, none, none, rfl, by omega, rfl⟩ ?_ ?_
    · rintro i σ' H' hi ⟨rfl, x, y, v2, v3, eg, le, rfl⟩
      walk_at "tx"
      refine RD.iteD (fun c => ?_) (fun c => ?_)
      · obtain rfl : y = 0 := by omega
        walk_at "tx"
        rw [← eg, Nat.gcd_zero_right] at k
        exact k
      · walk_at "tx"
        refine ⟨rfl, y, x % y, _, _, ?_, ?_, rfl⟩
        · rw [← eg, Nat.gcd_comm y, ← Nat.gcd_rec, Nat.gcd_comm]
        · have := Nat.mod_lt x (by omega : 0 < y)
          omega
    · rintro σ' H' ⟨rfl, x, y, v2, v3, eg, le, rfl⟩
      exfalso
      have : y + (100 : Int).toNat ≤ b := le
      omega
theorem ok_law_divisor (T : Top K mg) : FnOk P w K mg base CX0 3 T.f_law_divisor T.fd_law_divisor ["lengths"] (spLsL fun _ ls H Q => Q (.int (gcdL ls : Nat)) H) := by
  refine T.F_law_divisor.ok sc_law_divisor (fun vs H Q E h => ?_) (fun cdv A outer s H vs Q E hr h => ?_)
  · obtain ⟨a, ls, rfl, _⟩ := h; rfl
  · obtain ⟨a, ls, rfl, ea, ok, k⟩ := h
    refine ⟨_, (pss_cons (ps_set (i := 1) sc_law_divisor.nd rfl (Or.inl rfl) pe_int)
 (pss_cons (ps_for PassesOwn.never rfl (pi_list (pv 0)) (pg_name (i := 2) sc_law_divisor.nd rfl (Or.inl rfl))
 (pss_one (ps_set (i := 1) sc_law_divisor.nd rfl (Or.inl rfl) (pe_call (ok_law_common T) (hr.mono (by decide)) (by rfl) T.g_law_common T.F_law_common.kp T.b_law_common .nil pass0 (pa_cons (pv 2) (pa_cons (pv 1) pa_nil))))))
 (pss_one (ps_ret (pv 1))))), ?_⟩
    walk_at "tx"
    refine RD.f_list (K := K) (a := a) (xs := Ns ls) (fun i σ' H' => H' = H ∧ ∃ v : Option V, (ls.take i).foldl Nat.gcd 0 ≤ 60 ∧ σ' = [some (.ref a), some (.int ((ls.take i).foldl Nat.gcd 0 : Nat)), v]) ⟨rfl, _, by simp, rfl⟩ (fun i σ' H' _ q => by rw [q.1]; exact SqL.of ea) ?_ ?_
    · rintro i y σ' H' hy ⟨rfl, v, le, rfl⟩
      obtain ⟨l, el, rfl⟩ := WW.Ns_get hy
      have ml := List.mem_of_getElem? el
      walk_at "tx"
      refine ⟨l, _, rfl, by omega, ?_⟩
      walk_at "tx"
      have e : (ls.take (i + 1)).foldl Nat.gcd 0 = Nat.gcd l ((ls.take i).foldl Nat.gcd 0) := by
        rw [List.take_succ, el, List.foldl_append, Nat.gcd_comm]; rfl
      rw [e]
      refine ⟨rfl, some (.int (l : Nat)), ?_, rfl⟩
      · have := ok.hi l ml
        have := Nat.gcd_le_left ((ls.take i).foldl Nat.gcd 0) (ok.lo l ml)
        omega
    · rintro σ' H' ⟨rfl, v, le, rfl⟩
      walk_at "tx"
      rw [WW.Ns_len, List.take_length]
      exact k
theorem ok_law_reach (T : Top K mg) : FnOk P w K mg base CX0 1 T.f_law_reach T.fd_law_reach ["lengths", "last"] spRch := by
  refine T.F_law_reach.ok sc_law_reach (fun vs H Q E h => ?_) (fun cdv A outer s H vs Q E hr h => ?_)
  · obtain ⟨a, ls, last, rfl, _⟩ := h; rfl
  · obtain ⟨a, ls, last, rfl, ea, ok, l200, k⟩ := h
    refine ⟨_, (pss_cons (ps_set (i := 2) sc_law_reach.nd rfl (Or.inl rfl) (pe_lst (pa_cons pe_int pa_nil)))
 (pss_cons (ps_set (i := 3) sc_law_reach.nd rfl (Or.inl rfl) (pe_op op_rep (pe_lst (pa_cons pe_bl pa_nil)) (pe_op op_add (pv 1) pe_int)))
 (pss_cons (ps_asg pe_bl (pg_sub (pv 3) pe_int set_list))
 (pss_cons (ps_for PassesOwn.never rfl (pi_range1 (by rfl) T.n_range (pa_cons (pe_op op_add (pv 1) pe_int) pa_nil)) (pg_name (i := 4) sc_law_reach.nd rfl (Or.inl rfl))
 (pss_cons (ps_if (pt_cmpR op_ge (pv 4) (pe_callB RD.c_len (by rfl) T.n_len (by decide +kernel) (pa_cons (pv 2) pa_nil)) (nomark _))
 (pss_one ps_break)
 pss_nil)
 (pss_one (ps_for PassesOwn.never rfl (pi_list (pv 0)) (pg_name (i := 5) sc_law_reach.nd rfl (Or.inl rfl))
 (pss_one (ps_for PassesOwn.never rfl (pi_list (pe_lst (pa_cons (pe_op op_add (pe_ix ix_list (pv 2) (pv 4) (fun _ _ => rfl)) (pv 5)) (pa_cons (pe_op op_sub (pe_ix ix_list (pv 2) (pv 4) (fun _ _ => rfl)) (pv 5)) pa_nil)))) (pg_name (i := 6) sc_law_reach.nd rfl (Or.inl rfl))
 (pss_one (ps_if (PW.pt (pw_and (pt_cmpR op_ge (pv 6) pe_int (nomark _)) (pw_and (pt_cmpR op_le (pv 6) (pv 1) (nomark _)) (pw_and1 (pt_not (pt_val (pe_ix ix_list (pv 3) (pv 6) (fun _ _ => rfl))))))))
 (pss_cons (ps_asg pe_bl (pg_sub (pv 3) (pv 6) set_list))
 (pss_one (ps_expr (pe_bm PySem.F.plainAttrs_list PySem.F.slot_list_append PySem.F.type_list_append mt_append (pv 2) (pa_cons (pv 6) pa_nil)))))
 pss_nil))))))))
 (pss_one (ps_ret (pe_ix ix_list (pv 3) (pv 1) (fun _ _ => rfl)))))))), ?_⟩
    walk_at "tx"
    refine ⟨by show 1 ≤ sizeLine; decide, fun r hr' => ?_⟩
    have s1 := same_upd (o := HO.lst [V.int 0]) hr'
    have er : upd H r (.lst [.int 0]) r = some (.lst (Ns [0])) := upd_same
    generalize upd H r (.lst [.int 0]) = H1 at *
    walk_at "tx"
    refine ⟨by show 1 ≤ sizeLine; decide, fun q hq => ?_⟩
    have s2 := s1.trans (same_upd (o := HO.lst [V.bl false]) hq)
    have er2 := same_upd (o := HO.lst [V.bl false]) hq _ _ er
    have eq : upd H1 q (.lst [V.bl false]) q = some (.lst [.bl false]) := upd_same
    generalize upd H1 q (.lst [V.bl false]) = H2 at *
    walk_at "tx"
    refine ⟨q, (last : Int) + 1, _, rfl, rfl, eq, by omega, by omega, ?_, fun m hm => ?_⟩
    · show 1 * _ ≤ sizeLine
      exact Nat.le_trans (by omega : _ ≤ 201) (by decide)
    rw [mf_rep]
    have nm : m ≠ r := fun z => by rw [z, er2] at hm; cases hm
    have hm0 : H m = none := s2.free hm
    have s3 := s2.trans (same_upd (o := HO.lst (mf [] last)) hm)
    have em : upd H2 m (.lst (mf [] last)) m = some (.lst (mf [] last)) := upd_same
    have er3 := same_upd (o := HO.lst (mf [] last)) hm _ _ er2
    generalize upd H2 m (.lst (mf [] last)) = H3 at *
    walk_at "tx"
    refine RD.d_setL em (k := 0) (by rw [mf_len]; exact ix_nat (v := 0) (by omega)) ?_
    rw [mf_set (Nat.zero_le _)]
    replace s3 : Same H (upd H3 m (.lst (mf ([] ++ [0]) last))) := same_put s3 hm0
    have er4 : upd H3 m (.lst (mf ([] ++ [0]) last)) r = some (.lst (Ns [0])) := by rw [upd_ne nm.symm]; exact er3
    have em4 : upd H3 m (.lst (mf ([] ++ [0]) last)) m = some (.lst (mf [0] last)) := upd_same
    generalize upd H3 m (.lst (mf ([] ++ [0]) last)) = H4 at *
    have rd0 : Rd ls last [0] := ⟨by simp, fun v mv => by rw [List.mem_singleton.mp mv]; exact ⟨by omega, WW.Rc.refl⟩, List.mem_singleton.mpr rfl⟩
    walk_at "tx"
    refine ⟨(last : Int) + 1, rfl, by omega, by omega, ?_⟩
    refine RD.f_range (lo := 0) (n := ((last : Int) + 1).toNat) (fun t σ' H' => Same H H' ∧ ∃ (R : List Nat) (v4 v5 v6 : Option V), H' r = some (.lst (Ns R)) ∧ H' m = some (.lst (mf R last)) ∧ Rd ls last R ∧ Seen ls last t R ∧ t ≤ R.length ∧ σ' = [some (.ref a), some (.int last), some (.ref r), some (.ref m), v4, v5, v6]) ⟨s3, [0], _, _, _, er4, em4, rd0, fun t u ht => by omega, by simp, rfl⟩ ?_ ?_
    · rintro t σ' H5 ht ⟨s5, R, v4, v5, v6, er5, em5, rd, seen, tl, rfl⟩
      walk_at "tx"
      rw [WW.Ns_len]
      refine RD.iteD (fun c => ?_) (fun c => ?_)
      · walk_at "tx"
        refine RD.d_ixL (SqL.of em5) (atI_nat (mf_get (Nat.le_refl _))) ?_
        refine k _ _ s5 ?_
        rw [decide_eq_true_eq]
        exact rd.rch seen (by omega)
      · have tR : t < R.length := by omega
        obtain ⟨x, ex⟩ : ∃ x, R[t]? = some x := ⟨_, List.getElem?_eq_getElem tR⟩
        have ea5 := s5 _ _ ea
        walk_at "tx"
        refine RD.f_list (K := K) (a := a) (xs := Ns ls) (fun i σ' H' => Same H H' ∧ ∃ (R : List Nat) (v5 v6 : Option V), H' r = some (.lst (Ns R)) ∧ H' m = some (.lst (mf R last)) ∧ Rd ls last R ∧ Seen ls last t R ∧ R[t]? = some x ∧ (∀ l ∈ ls.take i, ∀ j, j ≤ last → (j = x + l ∨ x = j + l) → j ∈ R) ∧ σ' = [some (.ref a), some (.int last), some (.ref r), some (.ref m), some (.int (0 + t)), v5, v6]) ⟨s5, R, _, _, er5, em5, rd, seen, ex, (fun _ mm => nomatch mm), rfl⟩ (fun i σ' H' _ q => SqL.of (q.1 _ _ ea)) ?_ ?_
        · clear rd seen ex tl tR er5 em5 s5 c
          rintro i y σ' H6 hy ⟨s6, R, v5, v6, er6, em6, rd, seen, ex, pr, rfl⟩
          obtain ⟨l, el, rfl⟩ := WW.Ns_get hy
          have ml := List.mem_of_getElem? el
          have exN : atI (Ns R) ((0 : Int) + t) = some (.int x) := by rw [Int.zero_add]; exact atI_nat (by unfold WW.Ns; rw [List.getElem?_map, ex]; rfl)
          have mx := List.mem_of_getElem? ex
          have tR : t < R.length := (List.getElem?_eq_some_iff.mp ex).1
          have xl := (rd.ok x mx).1
          walk_at "tx"
          refine RD.d_ixL (SqL.of er6) exN ?_
          walk_at "tx"
          refine RD.d_ixL (SqL.of er6) exN ?_
          walk_at "tx"
          refine ⟨by show 2 ≤ sizeLine; decide, fun L hL => ?_⟩
          have sL := same_upd (o := HO.lst [V.int (x + l), V.int (x - l)]) hL
          have eL : upd H6 L (.lst [.int (x + l), .int (x - l)]) L = some (.lst [.int (x + l), .int (x - l)]) := upd_same
          have nrL := (ne_of_none er6 hL)
          have nmL := (ne_of_none em6 hL)
          replace s6 := s6.trans sL
          replace er6 := sL _ _ er6
          replace em6 := sL _ _ em6
          clear hL sL
          generalize upd H6 L (.lst [.int (x + l), .int (x - l)]) = H7 at *
          refine ⟨L, rfl, ⟨_, SqL.of eL⟩, ?_⟩
          refine RD.f_list (K := K) (a := L) (xs := [.int (x + l), .int (x - l)]) (fun q' σ' H' => Same H H' ∧ H' L = some (.lst [.int (x + l), .int (x - l)]) ∧ ∃ (R : List Nat) (v6 : Option V), H' r = some (.lst (Ns R)) ∧ H' m = some (.lst (mf R last)) ∧ Rd ls last R ∧ Seen ls last t R ∧ R[t]? = some x ∧ (∀ l ∈ ls.take i, ∀ j, j ≤ last → (j = x + l ∨ x = j + l) → j ∈ R) ∧ (1 ≤ q' → x + l ≤ last → x + l ∈ R) ∧ (2 ≤ q' → l ≤ x → x - l ∈ R) ∧ σ' = [some (.ref a), some (.int last), some (.ref r), some (.ref m), some (.int (0 + t)), some (.int l), v6]) ⟨s6, eL, R, _, er6, em6, rd, seen, ex, pr, (fun z => by omega), (fun z => by omega), rfl⟩ (fun q' σ' H' _ q => SqL.of q.2.1) ?_ ?_
          · clear rd seen ex tR er6 em6 s6 pr eL exN mx
            rintro q' y σ' H8 hy ⟨s8, eL, R, v6, er8, em8, rd, seen, ex, pr, p1, p2, rfl⟩
            have mx := List.mem_of_getElem? ex
            have tR : t < R.length := (List.getElem?_eq_some_iff.mp ex).1
            obtain ⟨zz, rfl, hz⟩ : ∃ zz : Int, y = .int zz ∧ ((q' = 0 ∧ zz = x + l) ∨ (q' = 1 ∧ zz = x - l)) := by
              match q', hy with
              | 0, e => cases e; exact ⟨_, rfl, .inl ⟨rfl, rfl⟩⟩
              | 1, e => cases e; exact ⟨_, rfl, .inr ⟨rfl, rfl⟩⟩
            walk_at "tx"
            refine RD.iteD (fun c0 => ?_) (fun c0 => ?_)
            · obtain ⟨v, rfl⟩ := Int.eq_ofNat_of_zero_le c0
              walk_at "tx"
              refine RD.iteD (fun c1 => ?_) (fun c1 => ?_)
              · have vl : v ≤ last := by omega
                walk_at "tx"
                refine RD.d_ixL (SqL.of em8) (atI_nat (mf_get vl)) ?_
                refine ⟨_, rfl, ?_⟩
                refine RD.iteN (fun c2 => ?_) (fun c2 => ?_)
                · walk_at "tx"
                  refine RD.d_setL em8 (k := v) (by rw [mf_len]; exact ix_nat (by omega)) ?_
                  rw [mf_set vl]
                  have s9 : Same H (upd H8 m (.lst (mf (R ++ [v]) last))) := same_put s8 hm0
                  have er9 : upd H8 m (.lst (mf (R ++ [v]) last)) r = some (.lst (Ns R)) := by rw [upd_ne nm.symm]; exact er8
                  have em9 : upd H8 m (.lst (mf (R ++ [v]) last)) m = some (.lst (mf (R ++ [v]) last)) := upd_same
                  have eL9 : upd H8 m (.lst (mf (R ++ [v]) last)) L = some (.lst [.int (x + l), .int (x - l)]) := by rw [upd_ne nmL.symm]; exact eL
                  generalize upd H8 m (.lst (mf (R ++ [v]) last)) = H9 at *
                  walk_at "tx"
                  refine ⟨RD.tyL er9, ?_⟩
                  walk_at "tx"
                  have rl := rd.len
                  refine RD.d_app er9 (by rw [WW.Ns_len]; exact Nat.lt_of_le_of_lt (by omega : _ ≤ 201) (by decide)) ?_
                  have nv : v ∉ R := fun m => c2 m
                  have st : St ls last x v := ⟨xl, vl, l, ml, by omega⟩
                  refine ⟨same_put s9 hr', by rw [upd_ne nrL.symm]; exact eL9, R ++ [v], _, by rw [upd_same, WW.Ns_app], by rw [upd_ne nm]; exact em9, rd.add mx st nv, seen.add (by omega), by rw [List.getElem?_append_left tR]; exact ex, fun l' m' j hj e => List.mem_append.mpr (.inl (pr l' m' j hj e)), fun _ hx => ?_, fun _ hx => ?_, rfl⟩
                  · rcases hz with ⟨rfl, e⟩ | ⟨rfl, e⟩
                    · rw [show x + l = v by omega]; simp
                    · exact List.mem_append.mpr (.inl (p1 (by omega) hx))
                  · rcases hz with ⟨rfl, e⟩ | ⟨rfl, e⟩
                    · omega
                    · rw [show x - l = v by omega]; simp
                · have mv : v ∈ R := c2
                  walk_at "tx"
                  refine ⟨s8, eL, R, _, er8, em8, rd, seen, ex, pr, fun _ hx => ?_, fun _ hx => ?_, rfl⟩
                  · rcases hz with ⟨rfl, e⟩ | ⟨rfl, e⟩
                    · rw [show x + l = v by omega]; exact mv
                    · exact p1 (by omega) hx
                  · rcases hz with ⟨rfl, e⟩ | ⟨rfl, e⟩
                    · omega
                    · rw [show x - l = v by omega]; exact mv
              · refine RD.d_iteF ?_
                walk_at "tx"
                refine ⟨s8, eL, R, _, er8, em8, rd, seen, ex, pr, fun _ hx => ?_, fun _ hx => ?_, rfl⟩
                · rcases hz with ⟨rfl, e⟩ | ⟨rfl, e⟩
                  · omega
                  · exact p1 (by omega) hx
                · rcases hz with ⟨rfl, e⟩ | ⟨rfl, e⟩
                  · omega
                  · omega
            · refine RD.d_iteF ?_
              walk_at "tx"
              refine ⟨s8, eL, R, _, er8, em8, rd, seen, ex, pr, fun _ hx => ?_, fun _ hx => ?_, rfl⟩
              · rcases hz with ⟨rfl, e⟩ | ⟨rfl, e⟩
                · omega
                · exact p1 (by omega) hx
              · rcases hz with ⟨rfl, e⟩ | ⟨rfl, e⟩
                · omega
                · omega
          · rintro σ' H8 ⟨s8, eL, R, v6, er8, em8, rd, seen, ex, pr, p1, p2, rfl⟩
            refine ⟨s8, R, _, _, er8, em8, rd, seen, ex, fun l' m' j hj e => ?_, rfl⟩
            rw [List.take_succ, el] at m'
            rcases List.mem_append.mp m' with m' | m'
            · exact pr l' m' j hj e
            · obtain rfl : l' = l := by simpa using m'
              rcases e with rfl | rfl
              · exact p1 (by show 1 ≤ 2; omega) hj
              · have := p2 (by show 2 ≤ 2; omega) (by omega)
                rwa [show j + l' - l' = j by omega] at this
        · rintro σ' H8 ⟨s8, R, v5, v6, er8, em8, rd, seen, ex, pr, rfl⟩
          have tR : t < R.length := (List.getElem?_eq_some_iff.mp ex).1
          refine ⟨s8, R, _, _, _, er8, em8, rd, fun t' u ht' e j st => ?_, by omega, rfl⟩
          by_cases c3 : t' = t
          · subst c3
            rw [ex] at e
            cases e
            obtain ⟨_, h2, l, ml, q⟩ := st
            refine pr l ?_ j h2 q
            rw [WW.Ns_len, List.take_length]
            exact ml
          · exact seen t' u (by omega) e j st
    · rintro σ' H5 ⟨s5, R, v4, v5, v6, er5, em5, rd, seen, tl, rfl⟩
      walk_at "tx"
      refine RD.d_ixL (SqL.of em5) (atI_nat (mf_get (Nat.le_refl _))) ?_
      refine k _ _ s5 ?_
      rw [decide_eq_true_eq]
      have := rd.len
      exact rd.rch seen (by omega)
end

/-! ### the law's lengths -/
open WW (Ns)
open LO (Rch St gcdL)
def spLngs : Sp := fun vs H Q _ => ∃ (h c : Addr), vs = [.ref h] ∧ TapeAt H h c ∧ ∀ (p : Addr) (ls : List Nat) (H' : Hp), TapeAt H' h c → Kx h H H' → H' p = some (.lst (Ns ls)) → p ≠ h → p ≠ c → Okl ls → Q (.ref p) H'
theorem Kx.free {h p : Addr} {H H' : Hp} (k : Kx h H H') (n : p ≠ h) (hp : H' p = none) : H p = none := by
  cases e : H p with
  | none => rfl
  | some o => rw [k p o n e] at hp; cases hp
section
variable {P : Program} {w : World} {K : PySem.W.Frag} {mg : Str → Option Value} {base : Heap} {H : Hp}
theorem ok_law_lengths (T : Top K mg) : FnOk P w K mg base CX0 3 T.f_law_lengths T.fd_law_lengths ["tape"] spLngs := by
  refine T.F_law_lengths.ok sc_law_lengths (fun vs H Q E h => ?_) (fun cdv A outer s H vs Q E hr h => ?_)
  · obtain ⟨h, c, rfl, _⟩ := h; rfl
  · obtain ⟨h, c, rfl, hT, k⟩ := h
    refine ⟨_, (pss_cons (ps_set (i := 1) sc_law_lengths.nd rfl (Or.inl rfl) (pe_call (ok_law_pick T) (hr.mono (by decide)) (by rfl) T.g_law_pick T.F_law_pick.kp T.b_law_pick .nil pass0 (pa_cons (pv 0) (pa_cons pe_int pa_nil))))
 (pss_cons (ps_set (i := 2) sc_law_lengths.nd rfl (Or.inl rfl) (pe_ix ix_list (pe_lst (pa_cons pe_int (pa_cons pe_int (pa_cons pe_int (pa_cons pe_int pa_nil))))) (pv 1) (fun _ _ => rfl)))
 (pss_cons (ps_set (i := 3) sc_law_lengths.nd rfl (Or.inl rfl) pe_int)
 (C8.pss_cut (ps_if (pt_cmpR op_eq (pv 1) pe_int (nomark _))
 (pss_one (ps_set (i := 3) sc_law_lengths.nd rfl (Or.inl rfl) (pe_op op_add pe_int (pe_call (ok_law_pick T) (hr.mono (by decide)) (by rfl) T.g_law_pick T.F_law_pick.kp T.b_law_pick .nil pass0 (pa_cons (pv 0) (pa_cons pe_int pa_nil))))))
 pss_nil)
 (pss_cons (ps_set (i := 4) sc_law_lengths.nd rfl (Or.inl rfl) (pe_lst pa_nil))
 (pss_cons (ps_for PassesOwn.never rfl (pi_range1 (by rfl) T.n_range (pa_cons (pe_op op_add pe_int (pe_call (ok_law_pick T) (hr.mono (by decide)) (by rfl) T.g_law_pick T.F_law_pick.kp T.b_law_pick .nil pass0 (pa_cons (pv 0) (pa_cons (pe_ix ix_list (pe_lst (pa_cons pe_int (pa_cons pe_int (pa_cons pe_int (pa_cons pe_int pa_nil))))) (pv 1) (fun _ _ => rfl)) pa_nil)))) pa_nil)) (pg_name (i := 5) sc_law_lengths.nd rfl (Or.inl rfl))
 (pss_one (ps_if (PW.pt (pw_and (pt_cmpR op_gt (pe_callB RD.c_len (by rfl) T.n_len (by decide +kernel) (pa_cons (pv 4) pa_nil)) pe_int (nomark _)) (pw_and1 (pt_cmpR op_eq (pe_call (ok_law_pick T) (hr.mono (by decide)) (by rfl) T.g_law_pick T.F_law_pick.kp T.b_law_pick .nil pass0 (pa_cons (pv 0) (pa_cons pe_int pa_nil))) pe_int (nomark _)))))
 (pss_one (ps_expr (pe_bm PySem.F.plainAttrs_list PySem.F.slot_list_append PySem.F.type_list_append mt_append (pv 4) (pa_cons (pe_ix ix_list (pv 4) (pe_call (ok_law_pick T) (hr.mono (by decide)) (by rfl) T.g_law_pick T.F_law_pick.kp T.b_law_pick .nil pass0 (pa_cons (pv 0) (pa_cons (pe_callB RD.c_len (by rfl) T.n_len (by decide +kernel) (pa_cons (pv 4) pa_nil)) pa_nil))) (fun _ _ => rfl)) pa_nil))))
 (pss_one (ps_expr (pe_bm PySem.F.plainAttrs_list PySem.F.slot_list_append PySem.F.type_list_append mt_append (pv 4) (pa_cons (pe_op op_mul (pv 3) (pe_op op_add pe_int (pe_call (ok_law_pick T) (hr.mono (by decide)) (by rfl) T.g_law_pick T.F_law_pick.kp T.b_law_pick .nil pass0 (pa_cons (pv 0) (pa_cons (pe_op op_fdivW (pv 2) (pv 3)) pa_nil))))) pa_nil)))))))
 (pss_one (ps_ret (pv 4))))))))), ?_⟩
    walk_at "tx"
    refine ⟨h, c, 4, rfl, hT, by decide, log2_lt (by decide), fun kd H1 a0 a4 hT1 b1 => ?_⟩
    have k1 : Kx h H H1 := b1.kp
    clear b1 hT
    walk_at "tx"
    refine ⟨by show 4 ≤ sizeLine; decide, fun q1 hq1 => ?_⟩
    have s1 := same_upd (o := HO.lst [V.int 12, V.int 60, V.int 60, V.int 20]) hq1
    have e1 : upd H1 q1 (.lst [.int 12, .int 60, .int 60, .int 20]) q1 = some (.lst [.int 12, .int 60, .int 60, .int 20]) := upd_same
    replace hT1 := hT1.same s1
    replace k1 := k1.trans (Same.kx s1)
    clear s1 hq1
    generalize upd H1 q1 (.lst [.int 12, .int 60, .int 60, .int 20]) = H2 at *
    obtain ⟨kd, rfl⟩ := Int.eq_ofNat_of_zero_le a0
    obtain ⟨mo, n8, emo, e8, mo1, mo60, n81, n88⟩ : ∃ mo n8 : Nat, [V.int 12, V.int 60, V.int 60, V.int 20][kd]? = some (.int (mo : Nat)) ∧ [V.int 8, V.int 3, V.int 4, V.int 3][kd]? = some (.int (n8 : Nat)) ∧ 10 ≤ mo ∧ mo ≤ 60 ∧ 1 ≤ n8 ∧ n8 ≤ 8 := by
      have : kd < 4 := by omega
      match kd, this with
      | 0, _ => exact ⟨12, 8, rfl, rfl, by omega, by omega, by omega, by omega⟩
      | 1, _ => exact ⟨60, 3, rfl, rfl, by omega, by omega, by omega, by omega⟩
      | 2, _ => exact ⟨60, 4, rfl, rfl, by omega, by omega, by omega, by omega⟩
      | 3, _ => exact ⟨20, 3, rfl, rfl, by omega, by omega, by omega, by omega⟩
    walk_at "tx"
    refine RD.d_ixL (SqL.of e1) (atI_nat emo) ?_
    walk_at "tx"
    refine RD.d_cut (fun σ' H' => ∃ pt : Nat, σ' = [some (.ref h), some (.int kd), some (.int mo), some (.int pt), none, none] ∧ 1 ≤ pt ∧ pt ≤ 10 ∧ TapeAt H' h c ∧ Kx h H H') ?_ ?_
    · walk_at "tx"
      refine RD.iteD (fun c2 => ?_) (fun c2 => ?_)
      · walk_at "tx"
        refine ⟨h, c, 9, rfl, hT1, by decide, log2_lt (by decide), fun r H3 r0 r9 hT3 b3 => ?_⟩
        walk_at "tx"
        exact ⟨(2 + r).toNat, by rw [Int.toNat_of_nonneg (by omega)]; rfl, by omega, by omega, hT3, k1.trans b3.kp⟩
      · walk_at "tx"
        exact ⟨1, rfl, by omega, by omega, hT1, k1⟩
    clear hT1 k1 e1
    rintro σ' H3 ⟨pt, rfl, p1, p10, hT3, k3⟩
    walk_at "tx"
    refine ⟨by show 0 ≤ sizeLine; decide, fun p hp => ?_⟩
    obtain ⟨np, npc⟩ := hT3.free hp
    have hp0 := k3.free np hp
    have sp := same_upd (o := HO.lst []) hp
    have ep : upd H3 p (.lst []) p = some (.lst (Ns [])) := upd_same
    replace hT3 := hT3.same sp
    replace k3 := k3.trans (Same.kx sp)
    clear sp hp
    generalize upd H3 p (.lst []) = H4 at *
    walk_at "tx"
    refine ⟨by show 4 ≤ sizeLine; decide, fun q2 hq2 => ?_⟩
    have s2 := same_upd (o := HO.lst [V.int 8, V.int 3, V.int 4, V.int 3]) hq2
    have e2 : upd H4 q2 (.lst [.int 8, .int 3, .int 4, .int 3]) q2 = some (.lst [.int 8, .int 3, .int 4, .int 3]) := upd_same
    replace hT3 := hT3.same s2
    replace k3 := k3.trans (Same.kx s2)
    replace ep := s2 _ _ ep
    clear s2 hq2
    generalize upd H4 q2 (.lst [.int 8, .int 3, .int 4, .int 3]) = H5 at *
    walk_at "tx"
    refine RD.d_ixL (SqL.of e2) (atI_nat e8) ?_
    walk_at "tx"
    refine ⟨h, c, n8, rfl, hT3, by omega, log2_lt (by omega), fun r H6 r0 rn hT6 b6 => ?_⟩
    replace ep := b6.kp _ _ np ep
    replace k3 := k3.trans b6.kp
    clear b6 hT3 e2
    walk_at "tx"
    refine ⟨1 + r, rfl, by omega, by omega, ?_⟩
    refine RD.f_range (lo := 0) (n := (1 + r).toNat) (fun i σ' H' => TapeAt H' h c ∧ Kx h H H' ∧ ∃ (ls : List Nat) (v5 : Option V), ls.length = i ∧ (∀ l ∈ ls, 1 ≤ l ∧ l ≤ 60) ∧ H' p = some (.lst (Ns ls)) ∧ σ' = [some (.ref h), some (.int kd), some (.int mo), some (.int pt), some (.ref p), v5]) ⟨hT6, k3, [], _, rfl, (fun _ m => nomatch m), ep, rfl⟩ ?_ ?_
    · clear hT6 k3 ep
      rintro i σ' H7 hi ⟨hT7, k7, ls, v5, li, ok, ep, rfl⟩
      have put : ∀ {H' : Hp} {l : Nat}, TapeAt H' h c → Kx h H H' → H' p = some (.lst (Ns ls)) → 1 ≤ l → l ≤ 60 → TapeAt (upd H' p (.lst (Ns ls ++ [.int (l : Nat)]))) h c ∧ Kx h H (upd H' p (.lst (Ns ls ++ [.int (l : Nat)]))) ∧ (∀ x ∈ ls ++ [l], 1 ≤ x ∧ x ≤ 60) ∧ upd H' p (.lst (Ns ls ++ [.int (l : Nat)])) p = some (.lst (Ns (ls ++ [l]))) := fun a b e l1 l2 => by
        refine ⟨a.upd np npc, b.fresh hp0, fun x m => ?_, by rw [upd_same, WW.Ns_app]⟩
        rcases List.mem_append.mp m with m | m
        · exact ok x m
        · rw [List.mem_singleton.mp m]; exact ⟨l1, l2⟩
      have sz : (Ns ls).length < sizeLine := by rw [WW.Ns_len, li]; exact Nat.lt_of_le_of_lt (by omega : i ≤ 10) (by decide)
      have oth : ∀ {H' : Hp}, TapeAt H' h c → Kx h H H' → H' p = some (.lst (Ns ls)) → ∀ (r2 : Int) (H8 : Hp), TapeAt H8 h c → But h H' H8 → 0 ≤ r2 → r2 < (mo : Int) / pt → TapeAt (upd H8 p (.lst (Ns ls ++ [.int (pt * (1 + r2))]))) h c ∧ Kx h H (upd H8 p (.lst (Ns ls ++ [.int (pt * (1 + r2))]))) ∧ ∃ l : Nat, (∀ x ∈ ls ++ [l], 1 ≤ x ∧ x ≤ 60) ∧ upd H8 p (.lst (Ns ls ++ [.int (pt * (1 + r2))])) p = some (.lst (Ns (ls ++ [l]))) := fun a b e r2 H8 a8 b8 q0 q1 => by
        have hm : (pt : Int) * (1 + r2) ≤ mo := by
          have h1 : (1 + r2) * pt ≤ (mo : Int) / pt * pt := Int.mul_le_mul_of_nonneg_right (by omega) (by omega)
          have h2 := Int.ediv_mul_le (mo : Int) (by omega : (pt : Int) ≠ 0)
          rw [Int.mul_comm]; omega
        have h1 : (1 : Int) ≤ pt * (1 + r2) := by
          have : (1 : Int) * 1 ≤ pt * (1 + r2) := Int.mul_le_mul (by omega) (by omega) (by omega) (by omega)
          omega
        obtain ⟨l, el⟩ := Int.eq_ofNat_of_zero_le (by omega : (0 : Int) ≤ pt * (1 + r2))
        rw [el]
        obtain ⟨z1, z2, z3, z4⟩ := put a8 (b.trans b8.kp) (b8.kp _ _ np e) (l := l) (by omega) (by omega)
        exact ⟨z1, z2, l, z3, z4⟩
      walk_at "tx"
      rw [WW.Ns_len]
      refine RD.iteD (fun c0 => ?_) (fun c0 => ?_)
      · walk_at "tx"
        refine ⟨h, c, 8, rfl, hT7, by decide, log2_lt (by decide), fun r8 H8 z0 z8 hT8 b8 => ?_⟩
        replace ep := b8.kp _ _ np ep
        replace k7 := k7.trans b8.kp
        clear b8 hT7
        walk_at "tx"
        refine RD.iteD (fun c1 => ?_) (fun c1 => ?_)
        · walk_at "tx"
          refine ⟨RD.tyL ep, ?_⟩
          walk_at "tx"
          rw [WW.Ns_len]
          refine ⟨h, c, ls.length, rfl, hT8, by omega, log2_lt (by omega), fun r9 H9 q0 q1 hT9 b9 => ?_⟩
          obtain ⟨r9, rfl⟩ := Int.eq_ofNat_of_zero_le q0
          have rl : r9 < ls.length := by omega
          replace ep := b9.kp _ _ np ep
          refine RD.d_ixL (SqL.of ep) (v := .int (ls[r9] : Nat)) (atI_nat (by unfold WW.Ns; rw [List.getElem?_map, List.getElem?_eq_getElem rl]; rfl)) ?_
          walk_at "tx"
          refine RD.d_app ep sz ?_
          obtain ⟨w1, w2⟩ := ok _ (List.getElem_mem rl)
          obtain ⟨z1, z2, z3, z4⟩ := put hT9 (k7.trans b9.kp) ep w1 w2
          exact ⟨z1, z2, _, _, by rw [List.length_append, li]; rfl, z3, z4, rfl⟩
        · walk_at "tx"
          refine ⟨RD.tyL ep, ?_⟩
          walk_at "tx"
          refine ⟨_, _, rfl, rfl, ⟨by omega, log2_lt (by omega)⟩, ?_⟩
          refine ⟨h, c, (mo : Int) / (pt : Int), rfl, hT8, ?_, ?_, fun r2 H9 q0 q1 hT9 b9 => ?_⟩
          · have : (1 : Int) ≤ (mo : Int) / pt := Int.le_ediv_of_mul_le (by omega) (by omega)
            omega
          · have := Int.ediv_le_self (pt : Int) (by omega : (0 : Int) ≤ mo)
            have h0 : (0 : Int) ≤ (mo : Int) / pt := Int.ediv_nonneg (by omega) (by omega)
            exact log2_lt (by omega)
          obtain ⟨z1, z2, l, z3, z4⟩ := oth hT8 k7 ep r2 H9 hT9 b9 q0 q1
          replace ep := b9.kp _ _ np ep
          walk_at "tx"
          refine RD.d_app ep sz ?_
          exact ⟨z1, z2, ls ++ [l], _, by rw [List.length_append, li]; rfl, z3, z4, rfl⟩
      · walk_at "tx"
        refine ⟨RD.tyL ep, ?_⟩
        walk_at "tx"
        refine ⟨_, _, rfl, rfl, ⟨by omega, log2_lt (by omega)⟩, ?_⟩
        refine ⟨h, c, (mo : Int) / (pt : Int), rfl, hT7, ?_, ?_, fun r2 H9 q0 q1 hT9 b9 => ?_⟩
        · have : (1 : Int) ≤ (mo : Int) / pt := Int.le_ediv_of_mul_le (by omega) (by omega)
          omega
        · have := Int.ediv_le_self (pt : Int) (by omega : (0 : Int) ≤ mo)
          have h0 : (0 : Int) ≤ (mo : Int) / pt := Int.ediv_nonneg (by omega) (by omega)
          exact log2_lt (by omega)
        obtain ⟨z1, z2, l, z3, z4⟩ := oth hT7 k7 ep r2 H9 hT9 b9 q0 q1
        replace ep := b9.kp _ _ np ep
        walk_at "tx"
        refine RD.d_app ep sz ?_
        exact ⟨z1, z2, ls ++ [l], _, by rw [List.length_append, li]; rfl, z3, z4, rfl⟩
    · rintro σ' H7 ⟨hT7, k7, ls, v5, li, ok, ep, rfl⟩
      walk_at "tx"
      exact k p ls _ hT7 k7 ep np npc ⟨by omega, by omega, fun l m => (ok l m).1, fun l m => (ok l m).2⟩
end

/-! ### lone lengths asked, and their gaps -/
open WW (Ns)
open LO (Rch St gcdL)
/-- the multiples of the divisor that are not reached -/
def GapL (ls gs : List Nat) : Prop := gs.Pairwise (· < ·) ∧ ∀ m, m ∈ gs ↔ 1 ≤ m ∧ gcdL ls ∣ m ∧ ¬ Rch ls m
theorem GapL.uniq {ls gs ks : List Nat} (h : GapL ls gs) (k : GapL ls ks) : gs = ks := WW.asc_uniq h.1 k.1 fun v => (h.2 v).trans (k.2 v).symm
theorem gcd_pos {ls : List Nat} (ok : Okl ls) : 1 ≤ gcdL ls ∧ gcdL ls ≤ 60 := by
  match ls, ok.ne, ok.lo, ok.hi with
  | l :: ls, _, lo, hi =>
    have h1 := (LO.fold_dvd (l :: ls) 0).2 l (List.mem_cons_self ..)
    have h2 := lo l (List.mem_cons_self ..)
    exact ⟨Nat.pos_of_dvd_of_pos h1 h2, Nat.le_trans (Nat.le_of_dvd h2 h1) (hi l (List.mem_cons_self ..))⟩
theorem top_le {ls s : List Nat} (ok : Okl ls) (ps : s.Perm ls) : (s.drop (s.length - 2)).sum ≤ 120 := by
  have b : ∀ q : List Nat, (∀ x ∈ q, x ≤ 60) → q.sum ≤ 60 * q.length := fun q => by
    induction q with
    | nil => intro _; simp
    | cons x q ih =>
      intro h
      have h1 := ih fun y m => h y (List.mem_cons_of_mem _ m)
      have h2 := h x (List.mem_cons_self ..)
      rw [List.sum_cons, List.length_cons]
      omega
  have := b (s.drop (s.length - 2)) fun x m => ok.hi x (ps.mem_iff.mp (List.mem_of_mem_drop m))
  rw [List.length_drop] at this
  omega
/-- one of the multiples more -/
def GapK (ls : List Nat) (g k : Nat) (gs : List Nat) : Prop := gs.Pairwise (· < ·) ∧ gs.length ≤ k ∧ ∀ m, m ∈ gs ↔ ∃ t, t < k ∧ m = g + t * g ∧ ¬ Rch ls m
theorem GapK.yes {ls gs : List Nat} {g k : Nat} (h : GapK ls g k gs) (g1 : 1 ≤ g) (n : ¬ Rch ls (g + k * g)) : GapK ls g (k + 1) (gs ++ [g + k * g]) := by
  obtain ⟨h1, h2, h3⟩ := h
  refine ⟨List.pairwise_append.mpr ⟨h1, List.pairwise_singleton .., fun a ma b mb => ?_⟩, by rw [List.length_append]; simp; omega, fun m => ?_⟩
  · rw [List.mem_singleton.mp mb]
    obtain ⟨t, ht, rfl, _⟩ := (h3 a).mp ma
    have : t * g < k * g := Nat.mul_lt_mul_of_pos_right ht (by omega)
    omega
  · rw [List.mem_append, List.mem_singleton, h3]
    constructor
    · rintro (⟨t, ht, e, q⟩ | rfl)
      · exact ⟨t, by omega, e, q⟩
      · exact ⟨k, by omega, rfl, n⟩
    · rintro ⟨t, ht, e, q⟩
      by_cases c : t = k
      · subst c; exact .inr e
      · exact .inl ⟨t, by omega, e, q⟩
theorem GapK.no {ls gs : List Nat} {g k : Nat} (h : GapK ls g k gs) (n : Rch ls (g + k * g)) : GapK ls g (k + 1) gs := by
  obtain ⟨h1, h2, h3⟩ := h
  refine ⟨h1, by omega, fun m => (h3 m).trans ⟨fun ⟨t, ht, e, q⟩ => ⟨t, by omega, e, q⟩, fun ⟨t, ht, e, q⟩ => ?_⟩⟩
  by_cases c : t = k
  · subst c; subst e; exact absurd n q
  · exact ⟨t, by omega, e, q⟩
theorem GapK.all {ls gs : List Nat} {k top : Nat} (h : GapK ls (gcdL ls) k gs) (g1 : 1 ≤ gcdL ls) (hk : ∀ t, t < k ↔ gcdL ls + t * gcdL ls < top) (big : ∀ m, top ≤ m → gcdL ls ∣ m → Rch ls m) : GapL ls gs := by
  refine ⟨h.1, fun m => (h.2.2 m).trans ⟨?_, ?_⟩⟩
  · rintro ⟨t, _, rfl, q⟩
    exact ⟨by omega, Nat.dvd_add (Nat.dvd_refl _) (Nat.dvd_mul_left ..), q⟩
  · rintro ⟨m1, ⟨c, rfl⟩, q⟩
    match c, m1, q with
    | 0, m1, _ => simp at m1
    | c + 1, m1, q =>
      have e : gcdL ls * (c + 1) = gcdL ls + c * gcdL ls := by rw [Nat.mul_succ, Nat.mul_comm, Nat.add_comm]
      refine ⟨c, (hk c).mpr (Nat.lt_of_not_le fun z => q (big _ (by rw [e]; exact z) ⟨_, rfl⟩)), e, q⟩
/-- asked for a number: right lengths and number, wrong lengths, a wrong number -/
def spTldE (K : PySem.W.Frag) (CL CT : Addr) : Sp := fun vs H Q E => ∃ v u, vs = [v, u] ∧ ((∃ (a : Addr) (ls : List Nat) (b : Bool), v = .ref a ∧ OQ.SeqAt K H a (Ns ls) ∧ Okl ls ∧ Num1 K H (10 ^ 30) u b ∧ (b = true → ∀ last : Nat, u = .int last → ∀ r H', Same H H' → (r = true ↔ Rch ls last) → Q (.bl r) H') ∧
    (b = false → ∀ d H', Same H H' → H' d = none → E (.ref CT) (some d) (upd H' d (ErrD u)))) ∨
  ∃ i, BadLn K H v i ∧ ∀ d H', Same H H' → H' d = none → E (.ref CL) (some d) (upd H' d (ErrD (.int i))))
section
variable {P : Program} {w : World} {K : PySem.W.Frag} {mg : Str → Option Value} {base : Heap} {H : Hp}
theorem ok_lone_told (T : Top K mg) : FnOk P w K mg base (L2.CX P w) 8 T.f_lone_told T.fd_lone_told ["lengths", "last"] (spTldE K T.C_BadLengths T.C_BadTimes) := by
  refine T.F_lone_told.okX sc_lone_told (fun vs H Q E h => ?_) (fun cdv A outer s H vs Q E hr h => ?_)
  · obtain ⟨v, u, rfl, _⟩ := h; rfl
  · obtain ⟨v, u, rfl, h⟩ := h
    refine ⟨_, (pss_cons (ps_expr (pe_call (ok_check_lengths T) (hr.mono (by decide)) (by rfl) T.g_check_lengths T.F_check_lengths.kp T.b_check_lengths .nil (passes_call (takes_of rfl rfl rfl rfl) (fun _ _ _ _ h => h)) (pa_cons (pv 0) pa_nil)))
 (pss_cons (ps_if (PW.pt (pw_or (pt_not (pt_val (pe_call (ok_is_integer T) (hr.mono (by decide)) (by rfl) T.g_is_integer T.F_is_integer.kp T.b_is_integer .nil pass0 (pa_cons (pv 1) pa_nil)))) (pw_or1 (pt_not (pt_chain op_le op_le pe_int (pv 1) (pe_glob (v := V.int 1000000000000000000000000000000) (by rfl) T.g_MOST_LAST ⟨_, rfl⟩))))))
 (pss_one (ps_raise rfl (takes_of rfl rfl rfl rfl) (pmk_oex T.oex_BadTimes T.i_BadTimes T.tI (ok_WayError__init T) (hr.mono (by decide)) T.b_WayError__init .nil pass0 (by rfl) T.g_BadTimes (pa_cons (pv 1) pa_nil))))
 pss_nil)
 (pss_one (ps_ret (pe_call (ok_leads_to T) (hr.mono (by decide)) (by rfl) T.g_leads_to T.F_leads_to.kp T.b_leads_to .nil pass0 (pa_cons (pv 0) (pa_cons (pv 1) pa_nil))))))), ?_⟩
    walk_at "tx"
    rcases h with ⟨a, ls, b, rfl, sa, ok, nb, k, kE⟩ | ⟨i, bad, kE⟩
    · refine ⟨_, rfl, .inl ⟨a, ls, rfl, sa, ok, fun H1 s1 => ?_⟩⟩
      walk_at "tx"
      have nb1 := nb.same s1
      cases b with
      | true =>
        obtain ⟨last, rfl, l1, l30⟩ := nb1.nat
        refine ⟨.int last, true, rfl, isI_int _, ?_⟩
        refine ⟨true, rfl, RD.d_iteNT ?_⟩
        walk_at "tx"
        refine RD.d_chain ?_
        walk_at "tx"
        rw [decide_eq_true (by omega : (1 : Int) ≤ last)]
        walk_at "tx"
        rw [decide_eq_true (by omega)]
        walk_at "tx"
        exact ⟨a, ls, last, rfl, OQ.SeqAt.same sa s1, ok, l1, l30, fun b H2 s2 e => k rfl last rfl b H2 (s1.trans s2) e⟩
      | false =>
        rcases nb1 with ⟨x, rfl, e⟩ | ⟨ii, _⟩
        · refine ⟨.int x, true, rfl, isI_int _, ?_⟩
          refine ⟨true, rfl, RD.d_iteNT ?_⟩
          walk_at "tx"
          refine RD.d_chain ?_
          walk_at "tx"
          have ne := of_decide_eq_false e.symm
          refine RD.iteD (fun c1 => ?_) (fun c1 => ?_)
          · walk_at "tx"
            refine RD.iteN (fun c2 => ?_) (fun c2 => absurd ⟨c1, by omega⟩ ne)
            walk_at "tx"
            exact d_mkO T.oex_BadTimes T.v_BadTimes fun d hd => kE rfl d _ s1 hd
          · walk_at "tx"
            exact d_mkO T.oex_BadTimes T.v_BadTimes fun d hd => kE rfl d _ s1 hd
        · refine ⟨u, false, rfl, ii, ?_⟩
          refine ⟨false, rfl, RD.d_iteNF ?_⟩
          walk_at "tx"
          exact d_mkO T.oex_BadTimes T.v_BadTimes fun d hd => kE rfl d _ s1 hd
    · exact ⟨_, rfl, .inr ⟨i, bad, kE⟩⟩
theorem ok_lone_gaps (T : Top K mg) : FnOk P w K mg base (L2.CX P w) 8 T.f_lone_gaps T.fd_lone_gaps ["lengths"] (spLnE K T.C_BadLengths [] fun _ ls H Q _ => ∀ D gs H', Same H H' → H D = none → H' D = some (.lst (Ns gs)) → GapL ls gs → Q (.ref D) H') := by
  refine T.F_lone_gaps.okX sc_lone_gaps (fun vs H Q E h => ?_) (fun cdv A outer s H vs Q E hr h => ?_)
  · obtain ⟨v, rfl, _⟩ := h; rfl
  · obtain ⟨v, rfl, h⟩ := h
    refine ⟨_, (pss_cons (ps_expr (pe_call (ok_check_lengths T) (hr.mono (by decide)) (by rfl) T.g_check_lengths T.F_check_lengths.kp T.b_check_lengths .nil (passes_call (takes_of rfl rfl rfl rfl) (fun _ _ _ _ h => h)) (pa_cons (pv 0) pa_nil)))
 (pss_cons (ps_set (i := 1) sc_lone_gaps.nd rfl (Or.inl rfl) (pe_call (ok_shared_divisor T) (hr.mono (by decide)) (by rfl) T.g_shared_divisor T.F_shared_divisor.kp T.b_shared_divisor .nil pass0 (pa_cons (pv 0) pa_nil)))
 (pss_one (ps_ret (pe_lc (own := [("last", 2)]) (g := (gName 2)) (tt := _) rfl sc_lone_gaps.nd (pi_range3 (by rfl) T.n_range (pa_cons (pv 1) (pa_cons (pe_call (ok_all_told_from T) (hr.mono (by decide)) (by rfl) T.g_all_told_from T.F_all_told_from.kp T.b_all_told_from .nil pass0 (pa_cons (pv 0) pa_nil)) (pa_cons (pv 1) pa_nil)))) (blkOk_by (own := [("last", 2)]) (N := ["lengths", "shared", "last"]) (sc := defScope s_lone_gaps) (by decide +kernel)) (fun _ _ _ _ _ => (pg_name (i := 2) sc_lone_gaps.nd rfl (Or.inl rfl))) (fun _ _ _ _ _ => (pts_one (pt_not (pt_val (pe_call (ok_leads_to T) (hr.mono (by decide)) (by rfl) T.g_leads_to T.F_leads_to.kp T.b_leads_to .nil pass0 (pa_cons (pv 0) (pa_cons (pv 2) pa_nil))))))) (fun _ _ _ _ _ => (pv 2))))))), ?_⟩
    walk_at "tx"
    rcases h with ⟨a, ls, rfl, sa, ok, k⟩ | ⟨i, bad, kE⟩
    · refine ⟨_, rfl, .inl ⟨a, ls, rfl, sa, ok, fun H1 s1 => ?_⟩⟩
      replace sa := OQ.SeqAt.same sa s1
      obtain ⟨g1, g60⟩ := gcd_pos ok
      walk_at "tx"
      refine ⟨a, ls, rfl, sa, ok, ?_⟩
      dsimp only
      walk_at "tx"
      unfold iRng3
      walk_at "tx"
      refine ⟨a, ls, rfl, sa, ok, fun s H2 ps ss s2 => ?_⟩
      replace sa := OQ.SeqAt.same sa s2
      have t120 := top_le ok ps
      obtain ⟨n, rg, n1000, hn⟩ := OQ.rgc_mul (g := gcdL ls) (top := (s.drop (s.length - 2)).sum) g1 (by omega) (by omega)
      walk_at "tx"
      refine ⟨_, _, _, n, rfl, rg, fun D hD => ?_⟩
      have hD0 := (s1.trans s2).free hD
      refine lc_it walk_rangeC (fun i H' => Same H2 H' ∧ ∃ gs, H' D = some (.lst (Ns gs)) ∧ GapK ls (gcdL ls) i gs) ⟨same_upd hD, [], upd_same, .nil, Nat.le_refl _, fun m => ⟨fun z => (nomatch z), fun ⟨t, ht, _⟩ => by omega⟩⟩ (fun _ _ _ _ => trivial) ?_ ?_
      · rintro i y H' H'' il ⟨s3, gs, eD, gk⟩ ⟨rfl, rfl⟩
        have e : ((gcdL ls : Nat) : Int) + (i : Nat) * (gcdL ls : Nat) = ((gcdL ls + i * gcdL ls : Nat) : Int) := by push_cast; rfl
        dsimp only
        rw [e]
        have lt := (hn i).mp il
        walk_at "tx"
        refine ⟨a, ls, _, rfl, OQ.SeqAt.same sa s3, ok, by omega, ?_, fun b H3 s4 eb => ?_⟩
        · generalize gcdL ls + i * gcdL ls = z at *
          exact Nat.le_trans (by omega : z ≤ 120) (by decide)
        · refine ⟨b, rfl, ?_⟩
          replace eD := s4 _ _ eD
          cases b with
          | true =>
            walk_at "tx"
            exact ⟨s3.trans s4, gs, eD, gk.no (eb.mp rfl)⟩
          | false =>
            walk_at "tx"
            refine ⟨_, eD, ?_, same_put (s3.trans s4) hD, _, by rw [upd_same, WW.Ns_app], gk.yes g1 fun z => by cases eb.mpr z⟩
            rw [WW.Ns_len]
            exact Nat.lt_of_le_of_lt (by have := gk.2.1; omega : _ ≤ 1000) (by decide)
      · rintro H' ⟨s3, gs, eD, gk⟩
        exact k D gs H' ((s1.trans s2).trans s3) hD0 eD (gk.all g1 hn fun m hm d => (LO.top_sum ss ps hm).mpr d)
    · exact ⟨_, rfl, .inr ⟨i, bad, kE⟩⟩
end

/-! ### the law's things -/
open WW (Ns)
open LO (Rch St gcdL)
/-- an item of a row: whether it is a number from 1 to 60 -/
def Itm (H : Hp) (h : Addr) (y : V) (b : Bool) : Prop := (∃ i : Int, y = .int i ∧ b = decide (1 ≤ i ∧ i ≤ 60)) ∨ (b = false ∧ (y = .non ∨ (∃ c, y = .bl c) ∨ (∃ z, y = .str z) ∨ ∃ q zs, y = .ref q ∧ q ≠ h ∧ H q = some (.lst zs)))
def RowT (H : Hp) (h : Addr) (xs : List V) : Prop := (∃ ls : List Nat, xs = Ns ls ∧ ∀ l ∈ ls, 1 ≤ l ∧ l ≤ 60) ∨ ∃ (k : Nat) (y : V), xs[k]? = some y ∧ Itm H h y false ∧ ∀ (j : Nat) (z : V), j < k → xs[j]? = some z → Itm H h z true
/-- a thing of the law: it stays while the tape moves -/
def Tg (H : Hp) (h : Addr) (v : V) : Prop := v = .non ∨ (∃ i, v = .int i) ∨ (∃ c, v = .bl c) ∨ (∃ z, v = .str z) ∨ (∃ p kvs, v = .ref p ∧ H p = some (.dK kvs)) ∨ ∃ p xs, v = .ref p ∧ ((p ≠ h ∧ H p = some (.lst xs)) ∨ H p = some (.tup xs)) ∧ RowT H h xs
theorem Itm.kx {H H' : Hp} {h : Addr} {y : V} {b : Bool} (i : Itm H h y b) (k : Kx h H H') : Itm H' h y b := i.imp_right fun ⟨e, r⟩ => ⟨e, r.imp_right fun r => r.imp_right fun r => r.imp_right fun ⟨q, zs, a, n, e⟩ => ⟨q, zs, a, n, k _ _ n e⟩⟩
theorem RowT.kx {H H' : Hp} {h : Addr} {xs : List V} (r : RowT H h xs) (k : Kx h H H') : RowT H' h xs := r.imp_right fun ⟨kk, y, e, i, p⟩ => ⟨kk, y, e, i.kx k, fun j z hj e => (p j z hj e).kx k⟩
theorem Tg.kx {H H' : Hp} {h c : Addr} {v : V} (t : Tg H h v) (x : TapeAt H h c) (k : Kx h H H') : Tg H' h v := by
  obtain ⟨cs, p0, q0, m0, n0, e1, _⟩ := x
  rcases t with t | t | t | t | ⟨p, kvs, rfl, e⟩ | ⟨p, xs, rfl, e, r⟩
  · exact .inl t
  · exact .inr (.inl t)
  · exact .inr (.inr (.inl t))
  · exact .inr (.inr (.inr (.inl t)))
  · exact .inr (.inr (.inr (.inr (.inl ⟨p, kvs, rfl, k _ _ (fun z => by subst z; rw [e] at e1; cases e1) e⟩))))
  · refine .inr (.inr (.inr (.inr (.inr ⟨p, xs, rfl, ?_, r.kx k⟩))))
    rcases e with ⟨n, e⟩ | e
    · exact .inl ⟨n, k _ _ n e⟩
    · exact .inr (k _ _ (fun z => by subst z; rw [e] at e1; cases e1) e)
theorem Itm.num {K : PySem.W.Frag} {H : Hp} {h : Addr} {y : V} {b : Bool} (i : Itm H h y b) : Num1 K H 60 y b := by
  rcases i with i | ⟨rfl, rfl | ⟨c, rfl⟩ | ⟨z, rfl⟩ | ⟨q, zs, rfl, _, e⟩⟩
  · exact .inl i
  · exact .inr ⟨isI_non, rfl⟩
  · exact .inr ⟨isI_bl c, rfl⟩
  · exact .inr ⟨isI_str z, rfl⟩
  · exact .inr ⟨isI_lst e, rfl⟩
/-- as lengths: right ones, or wrong ones -/
def Good (K : PySem.W.Frag) (H : Hp) (v : V) : Prop := ∃ (a : Addr) (ls : List Nat), v = .ref a ∧ OQ.SeqAt K H a (Ns ls) ∧ Okl ls
def Vd (K : PySem.W.Frag) (H : Hp) (v : V) : Option Int → Prop
  | none => Good K H v
  | some i => BadLn K H v i
theorem Good.same {K : PySem.W.Frag} {H H' : Hp} {v : V} (g : Good K H v) (s : Same H H') : Good K H' v := by
  obtain ⟨a, ls, e, sa, ok⟩ := g
  exact ⟨a, ls, e, OQ.SeqAt.same sa s, ok⟩
theorem Vd.same {K : PySem.W.Frag} {H H' : Hp} {v : V} {r : Option Int} (d : Vd K H v r) (s : Same H H') : Vd K H' v r := by
  cases r with
  | none => exact Good.same d s
  | some i => exact BadLn.same d s
theorem kitA_no {K : PySem.W.Frag} {t : String} (h1 : PySem.W.kitOne K (.type t) (.type "list") = some false) (h2 : PySem.W.kitOne K (.type t) (.type "tuple") = some false) : PySem.W.kitAny K (.type t) [.type "list", .type "tuple"] = some false := by
  unfold PySem.W.kitAny
  rw [h1]
  unfold PySem.W.kitAny
  rw [h2]
  unfold PySem.W.kitAny
  rfl
theorem Tg.vd {K : PySem.W.Frag} {H : Hp} {h : Addr} {v : V} (t : Tg H h v) : ∃ r, Vd K H v r := by
  rcases t with rfl | ⟨i, rfl⟩ | ⟨c, rfl⟩ | ⟨z, rfl⟩ | ⟨p, kvs, rfl, e⟩ | ⟨p, xs, rfl, e, r⟩
  · exact ⟨some (-1), .inl ⟨rfl, _, .base .non, kitA_no (kit_ty (by decide +kernel)) (kit_ty (by decide +kernel))⟩⟩
  · exact ⟨some (-1), .inl ⟨rfl, _, .base (.int i), kitA_no (kit_ty (by decide +kernel)) (kit_ty (by decide +kernel))⟩⟩
  · exact ⟨some (-1), .inl ⟨rfl, _, .base (.bl c), kitA_no (kit_ty (by decide +kernel)) (kit_ty (by decide +kernel))⟩⟩
  · exact ⟨some (-1), .inl ⟨rfl, _, .base (.str z), kitA_no (kit_ty (by decide +kernel)) (kit_ty (by decide +kernel))⟩⟩
  · exact ⟨some (-1), .inl ⟨rfl, _, .base (.dK e), kitA_no (kit_ty (by decide +kernel)) (kit_ty (by decide +kernel))⟩⟩
  · have sa : OQ.SeqAt K H p xs := e.imp (fun e => SqL.of e.2) fun e => SqT.of e
    by_cases l : 1 ≤ xs.length ∧ xs.length ≤ 8
    · rcases r with ⟨ls, rfl, all⟩ | ⟨k, y, ey, iy, pre⟩
      · rw [WW.Ns_len] at l
        exact ⟨none, p, ls, rfl, sa, l.1, l.2, fun x m => (all x m).1, fun x m => (all x m).2⟩
      · exact ⟨some k, .inr ⟨p, xs, rfl, sa, .inr ⟨l.1, l.2, k, rfl, fun j z hj ez => (pre j z hj ez).num, y, ey, iy.num⟩⟩⟩
    · exact ⟨some (-1), .inr ⟨p, xs, rfl, sa, .inl ⟨rfl, l⟩⟩⟩
/-- as a number -/
def numB (m : Nat) : V → Bool
  | .int i => decide (1 ≤ i ∧ i ≤ (m : Int))
  | _ => false
theorem Tg.num {K : PySem.W.Frag} {H : Hp} {h : Addr} {v : V} {m : Nat} (t : Tg H h v) : Num1 K H m v (numB m v) := by
  rcases t with rfl | ⟨i, rfl⟩ | ⟨c, rfl⟩ | ⟨z, rfl⟩ | ⟨p, kvs, rfl, e⟩ | ⟨p, xs, rfl, ⟨n, e⟩ | e, r⟩
  · exact .inr ⟨isI_non, rfl⟩
  · exact .inl ⟨i, rfl, rfl⟩
  · exact .inr ⟨isI_bl c, rfl⟩
  · exact .inr ⟨isI_str z, rfl⟩
  · exact .inr ⟨isI_dK e, rfl⟩
  · exact .inr ⟨isI_lst e, rfl⟩
  · exact .inr ⟨isI_tup e, rfl⟩
theorem Tg.it {H : Hp} {h : Addr} {v : V} (t : Tg H h v) : OQ.SameIt v := by
  rcases t with rfl | ⟨i, rfl⟩ | ⟨c, rfl⟩ | ⟨z, rfl⟩ | ⟨p, kvs, rfl, e⟩ | ⟨p, xs, rfl, e, r⟩
  · exact .inl rfl
  · exact .inl rfl
  · exact .inl rfl
  · exact .inl rfl
  · exact .inr ⟨_, rfl⟩
  · exact .inr ⟨_, rfl⟩
/-- what is due, and what is told -/
def verd (kd : Nat) (r : Option Int) (b : Bool) (u : V) : Option (Bool × Bool) × V := match r with
  | some i => (some (true, false), .int i)
  | none => if kd = 1 ∧ b = false then (some (false, true), u) else (none, .non)
def DueAt (H : Hp) (p : Addr) (r : Option (Bool × Bool) × V) : Prop := ∃ x, H p = some (.tup [x, r.2]) ∧ match r.1 with
  | none => x = .str "told"
  | some (a, c) => ∃ q, x = .ref q ∧ H q = some (.lst [.bl a, .bl c])
def spDue (K : PySem.W.Frag) : Sp := fun vs H Q _ => ∃ (kd : Nat) (v u : V) (r : Option Int) (b : Bool), vs = [.int kd, v, u] ∧ kd ≤ 1 ∧ Vd K H v r ∧ Num1 K H (10 ^ 30) u b ∧ ∀ p H', Same H H' → DueAt H' p (verd kd r b u) → Q (.ref p) H'
def spNmb (K : PySem.W.Frag) : Sp := fun vs H Q _ => ∃ (v : V) (m : Nat) (b : Bool), vs = [v, .int m] ∧ Num1 K H m v b ∧ Q (.bl b) H
section
variable {P : Program} {w : World} {K : PySem.W.Frag} {mg : Str → Option Value} {base : Heap} {H : Hp}
theorem ok_law_is_number (T : Top K mg) : FnOk P w K mg base CX0 1 T.f_law_is_number T.fd_law_is_number ["thing", "most"] (spNmb K) := by
  refine T.F_law_is_number.ok sc_law_is_number (fun vs H Q E h => ?_) (fun cdv A outer s H vs Q E hr h => ?_)
  · obtain ⟨v, m, b, rfl, _⟩ := h; rfl
  · obtain ⟨v, m, b, rfl, nb, k⟩ := h
    refine ⟨_, (pss_one (ps_ret (pe_and (pe_callB call_isi (by rfl) T.n_isinstance (by decide +kernel) (pa_cons (pv 0) (pa_cons (pe_bltn (v := V.ty "int") (by rfl) T.n_int (by decide +kernel) rfl) pa_nil))) (pe_and (pe_not (pe_callB call_isi (by rfl) T.n_isinstance (by decide +kernel) (pa_cons (pv 0) (pa_cons (pe_bltn (v := V.ty "bool") (by rfl) T.n_bool (by decide +kernel) rfl) pa_nil)))) (pe_and (pe_cmpR op_ge (pv 0) pe_int (nomark _)) (pe_one (pe_cmpR op_le (pv 0) (pv 1) (nomark _)))))))), ?_⟩
    walk_at "tx"
    rcases nb with ⟨i, rfl, rfl⟩ | ⟨⟨t, b1, b2, ty, e1, e2, eb⟩, rfl⟩
    · refine RD.d_isi (.ty _) (.base (.int i)) (kit_ty (by decide +kernel) : PySem.W.kitOne K (.type "int") (.type "int") = some true) ?_
      walk_at "tx"
      refine RD.d_isi (.ty _) (.base (.int i)) (kit_ty (by decide +kernel) : PySem.W.kitOne K (.type "int") (.type "bool") = some false) ?_
      walk_at "tx"
      refine RD.iteD (fun c1 => ?_) (fun c1 => ?_)
      · walk_at "tx"
        rw [show decide (1 ≤ i ∧ i ≤ (m : Int)) = decide (i ≤ (m : Int)) from decide_eq_decide.mpr ⟨fun z => z.2, fun z => ⟨by omega, z⟩⟩] at k
        exact k
      · rw [decide_eq_false (fun z => c1 (by omega))] at k
        exact k
    · refine RD.d_isi (.ty _) ty e1 ?_
      cases b1 with
      | false =>
        walk_at "tx"
        exact k
      | true =>
        cases b2 with
        | false => cases eb
        | true =>
          walk_at "tx"
          refine RD.d_isi (.ty _) ty e2 ?_
          walk_at "tx"
          exact k
end

/-! ### what is due and what is told -/
open WW (Ns)
open LO (Rch St gcdL)
theorem due_put {H : Hp} {q p : Addr} {a c : Bool} {y : V} (hq : H q = none) (hp : upd H q (.lst [.bl a, .bl c]) p = none) : DueAt (upd (upd H q (.lst [.bl a, .bl c])) p (.tup [.ref q, y])) p (some (a, c), y) ∧ Same H (upd (upd H q (.lst [.bl a, .bl c])) p (.tup [.ref q, y])) := by
  have s1 := same_upd (o := HO.lst [V.bl a, V.bl c]) hq
  have s2 := same_upd (o := HO.tup [V.ref q, y]) hp
  exact ⟨⟨.ref q, upd_same, q, rfl, s2 _ _ upd_same⟩, s1.trans s2⟩
section
variable {P : Program} {w : World} {K : PySem.W.Frag} {mg : Str → Option Value} {base : Heap} {H : Hp}
theorem ok_law_due (T : Top K mg) : FnOk P w K mg base CX0 3 T.f_law_due T.fd_law_due ["kind", "lengths", "last"] (spDue K) := by
  refine T.F_law_due.ok sc_law_due (fun vs H Q E h => ?_) (fun cdv A outer s H vs Q E hr h => ?_)
  · obtain ⟨kd, v, u, r, b, rfl, _⟩ := h; rfl
  · obtain ⟨kd, v, u, r, b, rfl, kd1, vd, nb, k⟩ := h
    refine ⟨_, (pss_cons (ps_if (PW.pt (pw_or (pt_not (pt_val (pe_callB call_isiT (by rfl) T.n_isinstance (by decide +kernel) (pa_cons (pv 1) (pa_cons (pe_tup (pa_cons (pe_bltn (v := V.ty "list") (by rfl) T.n_list (by decide +kernel) rfl) (pa_cons (pe_bltn (v := V.ty "tuple") (by rfl) T.n_tuple (by decide +kernel) rfl) pa_nil))) pa_nil))))) (pw_or (pt_cmpR op_lt (pe_callB RD.c_len (by rfl) T.n_len (by decide +kernel) (pa_cons (pv 1) pa_nil)) pe_int (nomark _)) (pw_or1 (pt_cmpR op_gt (pe_callB RD.c_len (by rfl) T.n_len (by decide +kernel) (pa_cons (pv 1) pa_nil)) pe_int (nomark _))))))
 (pss_one (ps_ret (pe_tup (pa_cons (pe_lst (pa_cons pe_bl (pa_cons pe_bl pa_nil))) (pa_cons (pe_un un_neg pe_int) pa_nil)))))
 pss_nil)
 (pss_cons (ps_for PassesOwn.never rfl (pi_range1 (by rfl) T.n_range (pa_cons (pe_callB RD.c_len (by rfl) T.n_len (by decide +kernel) (pa_cons (pv 1) pa_nil)) pa_nil)) (pg_name (i := 3) sc_law_due.nd rfl (Or.inl rfl))
 (pss_one (ps_if (pt_not (pt_val (pe_call (ok_law_is_number T) (hr.mono (by decide)) (by rfl) T.g_law_is_number T.F_law_is_number.kp T.b_law_is_number .nil pass0 (pa_cons (pe_ix OQ.ix_seq (pv 1) (pv 3) (fun _ _ => rfl)) (pa_cons pe_int pa_nil)))))
 (pss_one (ps_ret (pe_tup (pa_cons (pe_lst (pa_cons pe_bl (pa_cons pe_bl pa_nil))) (pa_cons (pv 3) pa_nil)))))
 pss_nil)))
 (pss_cons (ps_if (PW.pt (pw_and (pt_cmpR op_eq (pv 0) pe_int (nomark _)) (pw_and1 (pt_not (pt_val (pe_call (ok_law_is_number T) (hr.mono (by decide)) (by rfl) T.g_law_is_number T.F_law_is_number.kp T.b_law_is_number .nil pass0 (pa_cons (pv 2) (pa_cons (pe_op op_pow pe_int pe_int) pa_nil))))))))
 (pss_one (ps_ret (pe_tup (pa_cons (pe_lst (pa_cons pe_bl (pa_cons pe_bl pa_nil))) (pa_cons (pv 2) pa_nil)))))
 pss_nil)
 (pss_one (ps_ret (pe_tup (pa_cons pe_str (pa_cons pe_non pa_nil)))))))), ?_⟩
    walk_at "tx"
    refine ⟨by show 2 ≤ sizeLine; decide, fun tp htp => ?_⟩
    have s1 : Same H (upd H tp (.tup [.ty "list", .ty "tuple"])) := same_upd htp
    have vd1 := vd.same s1
    have nb1 := nb.same s1
    walk_at "tx"
    have isT : ∀ {t : Value} {b' : Bool} {R : VK}, TyX K (upd H tp (.tup [.ty "list", .ty "tuple"])) v t → PySem.W.kitAny K t [.type "list", .type "tuple"] = some b' → R (.bl b') (upd H tp (.tup [.ty "list", .ty "tuple"])) → rIsiT K [v, .ref tp] (upd H tp (.tup [.ty "list", .ty "tuple"])) R := fun ty kt z => ⟨v, tp, _, _, _, _, rfl, upd_same, .cons (.ty _) (.cons (.ty _) .nil), ty, kt, z⟩
    generalize upd H tp (.tup [.ty "list", .ty "tuple"]) = H1 at *
    have row : ∀ {a : Addr} {xs : List V}, True := fun {_ _} => trivial
    cases r with
    | some i =>
      have k : ∀ p H', Same H H' → DueAt H' p (some (true, false), .int i) → Q (.ref p) H' := k
      rcases vd1 with ⟨rfl, t, ty, kt⟩ | ⟨a, xs, rfl, sa, h⟩
      · refine isT ty kt ?_
        refine ⟨false, rfl, RD.d_iteNF ?_⟩
        walk_at "tx"
        refine ⟨by show 2 ≤ sizeLine; decide, fun q hq => ?_⟩
        walk_at "tx"
        refine ⟨by show 2 ≤ sizeLine; decide, fun p hp => ?_⟩
        obtain ⟨d1, d2⟩ := due_put (y := .int (-1)) hq hp
        exact k p _ (s1.trans d2) d1
      · obtain ⟨t, ty, kt⟩ := OQ.SeqAt.row sa
        refine isT ty kt ?_
        refine ⟨true, rfl, RD.d_iteNT ?_⟩
        walk_at "tx"
        refine OQ.SeqAt.len sa ?_
        walk_at "tx"
        rcases h with ⟨rfl, nl⟩ | ⟨n1, n8, kk, rfl, pre, y, ey, by'⟩
        · refine RD.iteD (fun c1 => ?_) (fun c1 => ?_)
          · walk_at "tx"
            refine ⟨by show 2 ≤ sizeLine; decide, fun q hq => ?_⟩
            walk_at "tx"
            refine ⟨by show 2 ≤ sizeLine; decide, fun p hp => ?_⟩
            obtain ⟨d1, d2⟩ := due_put (y := .int (-1)) hq hp
            exact k p _ (s1.trans d2) d1
          · walk_at "tx"
            refine OQ.SeqAt.len sa ?_
            walk_at "tx"
            refine RD.iteD (fun c2 => ?_) (fun c2 => absurd ⟨by omega, by omega⟩ nl)
            walk_at "tx"
            refine ⟨by show 2 ≤ sizeLine; decide, fun q hq => ?_⟩
            walk_at "tx"
            refine ⟨by show 2 ≤ sizeLine; decide, fun p hp => ?_⟩
            obtain ⟨d1, d2⟩ := due_put (y := .int (-1)) hq hp
            exact k p _ (s1.trans d2) d1
        · rw [decide_eq_false (by omega : ¬ (xs.length : Int) < 1)]
          walk_at "tx"
          refine OQ.SeqAt.len sa ?_
          walk_at "tx"
          rw [decide_eq_false (by omega : ¬ (xs.length : Int) > 8)]
          walk_at "tx"
          refine OQ.SeqAt.len sa ?_
          walk_at "tx"
          refine ⟨xs.length, rfl, by omega, by omega, ?_⟩
          have kl : kk < xs.length := (List.getElem?_eq_some_iff.mp ey).1
          refine RD.f_range (lo := 0) (n := ((xs.length : Nat) : Int).toNat) (fun j σ' H' => j ≤ kk ∧ H' = H1 ∧ ∃ v3 : Option V, σ' = [some (.int kd), some (.ref a), some u, v3]) ⟨Nat.zero_le _, rfl, none, rfl⟩ ?_ ?_
          · rintro j σ' H' hj ⟨jk, rfl, v3, rfl⟩
            have jl : j < xs.length := by omega
            walk_at "tx"
            refine OQ.d_ixA sa (v := xs[j]) (by rw [Int.zero_add]; exact atI_nat (List.getElem?_eq_getElem jl)) ?_
            walk_at "tx"
            by_cases c : j = kk
            · subst c
              obtain rfl : xs[j] = y := by rw [List.getElem?_eq_getElem jl] at ey; exact Option.some.inj ey
              refine ⟨_, 60, false, rfl, by', ?_⟩
              refine ⟨false, rfl, RD.d_iteNF ?_⟩
              walk_at "tx"
              rw [Int.zero_add]
              refine ⟨by show 2 ≤ sizeLine; decide, fun q hq => ?_⟩
              walk_at "tx"
              refine ⟨by show 2 ≤ sizeLine; decide, fun p hp => ?_⟩
              obtain ⟨d1, d2⟩ := due_put (y := .int (j : Nat)) hq hp
              exact k p _ (s1.trans d2) d1
            · refine ⟨_, 60, true, rfl, pre j _ (by omega) (List.getElem?_eq_getElem jl), ?_⟩
              refine ⟨true, rfl, RD.d_iteNT ?_⟩
              walk_at "tx"
              exact ⟨by omega, rfl, _, rfl⟩
          · rintro σ' H' ⟨jk, _⟩
            omega
    | none =>
      obtain ⟨a, ls, rfl, sa, ok⟩ := vd1
      have n8 := ok.l8
      have n1 := ok.ne
      obtain ⟨t, ty, kt⟩ := OQ.SeqAt.row sa
      refine isT ty kt ?_
      refine ⟨true, rfl, RD.d_iteNT ?_⟩
      walk_at "tx"
      refine OQ.SeqAt.len sa ?_
      rw [WW.Ns_len]
      walk_at "tx"
      rw [decide_eq_false (by omega : ¬ (ls.length : Int) < 1)]
      walk_at "tx"
      refine OQ.SeqAt.len sa ?_
      rw [WW.Ns_len]
      walk_at "tx"
      rw [decide_eq_false (by omega : ¬ (ls.length : Int) > 8)]
      walk_at "tx"
      refine OQ.SeqAt.len sa ?_
      rw [WW.Ns_len]
      walk_at "tx"
      refine ⟨ls.length, rfl, by omega, by omega, ?_⟩
      refine RD.f_range (lo := 0) (n := ((ls.length : Nat) : Int).toNat) (fun j σ' H' => H' = H1 ∧ ∃ v3 : Option V, σ' = [some (.int kd), some (.ref a), some u, v3]) ⟨rfl, none, rfl⟩ ?_ ?_
      · rintro j σ' H' hj ⟨rfl, v3, rfl⟩
        have jl : j < ls.length := by omega
        walk_at "tx"
        refine OQ.d_ixA sa (v := .int (ls[j] : Nat)) (by rw [Int.zero_add]; exact atI_nat (by unfold WW.Ns; rw [List.getElem?_map, List.getElem?_eq_getElem jl]; rfl)) ?_
        walk_at "tx"
        have m := List.getElem_mem jl
        have q1 := ok.lo _ m
        have q2 := ok.hi _ m
        refine ⟨_, 60, true, rfl, .inl ⟨_, rfl, (decide_eq_true (by omega)).symm⟩, ?_⟩
        refine ⟨true, rfl, RD.d_iteNT ?_⟩
        walk_at "tx"
        exact ⟨rfl, _, rfl⟩
      · rintro σ' H' ⟨rfl, v3, rfl⟩
        walk_at "tx"
        refine RD.iteD (fun c1 => ?_) (fun c1 => ?_)
        · have k1 : kd = 1 := by omega
          walk_at "tx"
          refine ⟨u, 10 ^ 30, b, rfl, nb1, ?_⟩
          cases b with
          | false =>
            have k : ∀ p H', Same H H' → DueAt H' p (some (false, true), u) → Q (.ref p) H' := fun p H' s d => k p H' s (by unfold verd; rw [if_pos ⟨k1, rfl⟩]; exact d)
            refine ⟨false, rfl, RD.d_iteNF ?_⟩
            walk_at "tx"
            refine ⟨by show 2 ≤ sizeLine; decide, fun q hq => ?_⟩
            walk_at "tx"
            refine ⟨by show 2 ≤ sizeLine; decide, fun p hp => ?_⟩
            obtain ⟨d1, d2⟩ := due_put (y := u) hq hp
            exact k p _ (s1.trans d2) d1
          | true =>
            refine ⟨true, rfl, RD.d_iteNT ?_⟩
            walk_at "tx"
            refine ⟨by show 2 ≤ sizeLine; decide, fun p hp => ?_⟩
            refine k p _ (s1.trans (same_upd hp)) ?_
            unfold verd
            rw [if_neg (fun z => by cases z.2)]
            exact ⟨_, upd_same, rfl⟩
        · walk_at "tx"
          refine ⟨by show 2 ≤ sizeLine; decide, fun p hp => ?_⟩
          refine k p _ (s1.trans (same_upd hp)) ?_
          unfold verd
          rw [if_neg (fun z => c1 (by omega))]
          exact ⟨_, upd_same, rfl⟩
theorem ok_law_asked (T : Top K mg) : FnOk P w K mg base CX0 10 T.f_law_asked T.fd_law_asked ["kind", "lengths", "last"] (spDue K) := by
  refine T.F_law_asked.ok sc_law_asked (fun vs H Q E h => ?_) (fun cdv A outer s H vs Q E hr h => ?_)
  · obtain ⟨kd, v, u, r, b, rfl, _⟩ := h; rfl
  · obtain ⟨kd, v, u, r, b, rfl, kd1, vd, nb, k⟩ := h
    refine ⟨_, (pss_cons (ps_set (i := 3) sc_law_asked.nd rfl (Or.inl rfl) (pe_tup (pa_cons pe_str (pa_cons pe_non pa_nil))))
 (pss_cons (ps_try_as (i := 4) (Wout := fun _ _ _ _ => False) rfl rfl sc_law_asked.nd rfl rfl ⟨rfl, by decide, Or.inl T.g_WayError⟩ takes0 (fun W pn xe tk _ => (pss_one (ps_if (pt_cmpR op_eq (pv 0) pe_int (nomark _))
 (pss_one (ps_expr (pe_callS (ok_lone_gaps T) (hr.mono (by decide)) (by rfl) T.g_lone_gaps T.F_lone_gaps.kp T.b_lone_gaps (fun σ => passAt tk σ) (pa_cons (pv 1) pa_nil))))
 (pss_one (ps_expr (pe_callS (ok_lone_told T) (hr.mono (by decide)) (by rfl) T.g_lone_told T.F_lone_told.kp T.b_lone_told (fun σ => passAt tk σ) (pa_cons (pv 1) (pa_cons (pv 2) pa_nil)))))))) (fun a oe cls d pn hz hf => (pss_one (ps_set (i := 3) sc_law_asked.nd rfl (Or.inl rfl) (pe_tup (pa_cons (pe_lst (pa_cons (pe_callB (OQ.cr_orC (OQ.call_isX T.exI_BadLengths hz hf) (OQ.call_isX T.exI_BadTimes hz hf)) (by rfl) T.n_isinstance (by decide +kernel) (pa_cons (pv 4) (pa_cons (pe_glob (v := V.ref T.C_BadLengths) (by rfl) T.g_BadLengths rfl) pa_nil))) (pa_cons (pe_callB (OQ.cr_orC (OQ.call_isX T.exI_BadLengths hz hf) (OQ.call_isX T.exI_BadTimes hz hf)) (by rfl) T.n_isinstance (by decide +kernel) (pa_cons (pv 4) (pa_cons (pe_glob (v := V.ref T.C_BadTimes) (by rfl) T.g_BadTimes rfl) pa_nil))) pa_nil))) (pa_cons (OQ.pe_orE (pe_xf T.xf_BadLengths T.v_BadLengths hz hf (pv 4)) (pe_xf T.xf_BadTimes T.v_BadTimes hz hf (pv 4))) pa_nil)))))))
 (pss_one (ps_ret (pv 3))))), ?_⟩
    walk_at "tx"
    refine ⟨by show 2 ≤ sizeLine; decide, fun p0 hp0 => ?_⟩
    have s0 : Same H (upd H p0 (.tup [.str (Str.ofString "told"), .non])) := same_upd hp0
    have e0 : upd H p0 (.tup [.str (Str.ofString "told"), .non]) p0 = some (.tup [.str (Str.ofString "told"), .non]) := upd_same
    generalize upd H p0 (.tup [.str (Str.ofString "told"), .non]) = H0 at *
    replace vd := vd.same s0
    replace nb := nb.same s0
    walk_at "tx"
    have tl : ∀ {H' : Hp}, Same H0 H' → verd kd r b u = (none, .non) → Q (.ref p0) H' := fun s e => k p0 _ (s0.trans s) (by rw [e]; exact ⟨_, s _ _ e0, rfl⟩)
    refine RD.iteD (fun c0 => ?_) (fun c0 => ?_)
    · have kd0 : kd ≠ 1 := by omega
      walk_at "tx"
      cases r with
      | some i =>
        refine ⟨_, rfl, .inr ⟨i, vd, fun d H1 s1 hd => ?_⟩⟩
        have s2 := s1.trans (same_upd (o := ErrD (.int i)) hd)
        have ed : upd H1 d (ErrD (.int i)) d = some (ErrD (.int i)) := upd_same
        generalize upd H1 d (ErrD (.int i)) = H2 at *
        refine ⟨true, T.exW_BadLengths, fun _ e he => ?_, fun z => Bool.noConfusion z⟩
        walk_at "tx"
        refine .inl (OQ.d_isX rfl rfl ed (.own _) T.kE_BadLengths ?_)
        walk_at "tx"
        refine .inl (OQ.d_isX rfl rfl ed (.own _) T.kLT ?_)
        walk_at "tx"
        refine ⟨by show 2 ≤ sizeLine; decide, fun q hq => ?_⟩
        have s3 := same_upd (o := HO.lst [V.bl true, V.bl false]) hq
        have ed3 := s3 _ _ ed
        walk_at "tx"
        refine .inl ?_
        walk_at "tx"
        skip
        refine ⟨rfl, rfl, d, _, _, rfl, ed3, errD_v _, ?_⟩
        walk_at "tx"
        refine ⟨by show 2 ≤ sizeLine; decide, fun p hp => ?_⟩
        walk_at "tx"
        obtain ⟨d1, d2⟩ := due_put (y := (.int i)) hq hp
        exact k p _ ((s0.trans s2).trans d2) d1
      | none =>
        obtain ⟨a, ls, rfl, sa, ok⟩ := vd
        refine ⟨_, rfl, .inl ⟨a, ls, rfl, sa, ok, fun D gs H1 s1 _ _ _ => ?_⟩⟩
        walk_at "tx"
        exact tl s1 (by unfold verd; rw [if_neg (fun z => kd0 z.1)])
    · have kd0 : kd = 1 := by omega
      walk_at "tx"
      cases r with
      | some i =>
        refine ⟨_, rfl, _, rfl, _, _, rfl, .inr ⟨i, vd, fun d H1 s1 hd => ?_⟩⟩
        have s2 := s1.trans (same_upd (o := ErrD (.int i)) hd)
        have ed : upd H1 d (ErrD (.int i)) d = some (ErrD (.int i)) := upd_same
        generalize upd H1 d (ErrD (.int i)) = H2 at *
        refine ⟨true, T.exW_BadLengths, fun _ e he => ?_, fun z => Bool.noConfusion z⟩
        walk_at "tx"
        refine .inl (OQ.d_isX rfl rfl ed (.own _) T.kE_BadLengths ?_)
        walk_at "tx"
        refine .inl (OQ.d_isX rfl rfl ed (.own _) T.kLT ?_)
        walk_at "tx"
        refine ⟨by show 2 ≤ sizeLine; decide, fun q hq => ?_⟩
        have s3 := same_upd (o := HO.lst [V.bl true, V.bl false]) hq
        have ed3 := s3 _ _ ed
        walk_at "tx"
        refine .inl ?_
        walk_at "tx"
        skip
        refine ⟨rfl, rfl, d, _, _, rfl, ed3, errD_v _, ?_⟩
        walk_at "tx"
        refine ⟨by show 2 ≤ sizeLine; decide, fun p hp => ?_⟩
        walk_at "tx"
        obtain ⟨d1, d2⟩ := due_put (y := (.int i)) hq hp
        exact k p _ ((s0.trans s2).trans d2) d1
      | none =>
        obtain ⟨a, ls, rfl, sa, ok⟩ := vd
        refine ⟨_, rfl, _, rfl, _, _, rfl, .inl ⟨a, ls, b, rfl, sa, ok, nb, fun b1 last el r H1 s1 _ => ?_, fun b0 d H1 s1 hd => ?_⟩⟩
        · walk_at "tx"
          exact tl s1 (by unfold verd; rw [if_neg (fun z => by rw [b1] at z; cases z.2)])
        · have k : ∀ p H', Same H H' → DueAt H' p (some (false, true), u) → Q (.ref p) H' := fun p H' s d => k p H' s (by unfold verd; rw [if_pos ⟨kd0, b0⟩]; exact d)
          have s2 := s1.trans (same_upd (o := ErrD u) hd)
          have ed : upd H1 d (ErrD u) d = some (ErrD u) := upd_same
          generalize upd H1 d (ErrD u) = H2 at *
          refine ⟨true, T.exW_BadTimes, fun _ e he => ?_, fun z => Bool.noConfusion z⟩
          walk_at "tx"
          refine .inr (OQ.d_isX rfl rfl ed (.own _) T.kTL ?_)
          walk_at "tx"
          refine .inr (OQ.d_isX rfl rfl ed (.own _) T.kE_BadTimes ?_)
          walk_at "tx"
          refine ⟨by show 2 ≤ sizeLine; decide, fun q hq => ?_⟩
          have s3 := same_upd (o := HO.lst [V.bl false, V.bl true]) hq
          have ed3 := s3 _ _ ed
          walk_at "tx"
          refine .inr ?_
          walk_at "tx"
          skip
          refine ⟨rfl, rfl, d, _, _, rfl, ed3, errD_v _, ?_⟩
          walk_at "tx"
          refine ⟨by show 2 ≤ sizeLine; decide, fun p hp => ?_⟩
          walk_at "tx"
          obtain ⟨d1, d2⟩ := due_put (y := u) hq hp
          exact k p _ ((s0.trans s2).trans d2) d1
end

/-! ### odd things and bent lengths -/
open WW (Ns)
open LO (Rch St gcdL)
def spOdd : Sp := fun vs H Q _ => ∃ (h c : Addr), vs = [.ref h] ∧ TapeAt H h c ∧ ∀ (v : V) (H' : Hp), TapeAt H' h c → Kx h H H' → Tg H' h v → Q v H'
section
variable {P : Program} {w : World} {K : PySem.W.Frag} {mg : Str → Option Value} {base : Heap} {H : Hp}
set_option maxRecDepth 20000 in
theorem ok_law_odd (T : Top K mg) : FnOk P w K mg base CX0 3 T.f_law_odd T.fd_law_odd ["tape"] spOdd := by
  refine T.F_law_odd.ok sc_law_odd (fun vs H Q E h => ?_) (fun cdv A outer s H vs Q E hr h => ?_)
  · obtain ⟨h, c, rfl, _⟩ := h; rfl
  · obtain ⟨h, c, rfl, hT, k⟩ := h
    refine ⟨_, (pss_cons (ps_set (i := 1) sc_law_odd.nd rfl (Or.inl rfl) (pe_lst (pa_cons pe_non (pa_cons pe_bl (pa_cons pe_bl (pa_cons pe_int (pa_cons pe_int (pa_cons (pe_un un_neg pe_int) (pa_cons (pe_op op_pow pe_int pe_int) (pa_cons pe_str (pa_cons pe_str (pa_cons pe_str (pa_cons (pe_op RD.o_addS (pe_op OQ.o_mulS pe_str pe_int) pe_str) (pa_cons (pe_lst pa_nil) (pa_cons pe_dnewK (pa_cons (pe_tup pa_nil) pa_nil))))))))))))))))
 (pss_cons (ps_set (i := 1) sc_law_odd.nd rfl (Or.inl rfl) (pe_op op_cat (pv 1) (pe_lst (pa_cons (pe_lst (pa_cons pe_str pa_nil)) (pa_cons (pe_tup (pa_cons pe_str (pa_cons pe_str pa_nil))) (pa_cons (pe_disp (pps_cons pe_str pe_int pps_nil) (by rfl) (by rfl) (by simp) (by decide)) (pa_cons (pe_lst (pa_cons (pe_lst (pa_cons pe_str pa_nil)) (pa_cons (pe_disp (pps_cons pe_str pe_non pps_nil) (by rfl) (by rfl) (by simp) (by decide)) pa_nil))) (pa_cons pe_str (pa_cons (pe_tup (pa_cons pe_str pa_nil)) pa_nil)))))))))
 (pss_one (ps_ret (pe_ix ix_list (pv 1) (pe_call (ok_law_pick T) (hr.mono (by decide)) (by rfl) T.g_law_pick T.F_law_pick.kp T.b_law_pick .nil pass0 (pa_cons (pv 0) (pa_cons (pe_callB RD.c_len (by rfl) T.n_len (by decide +kernel) (pa_cons (pv 1) pa_nil)) pa_nil))) (fun _ _ => rfl)))))), ?_⟩
    walk_at "tx"
    refine ⟨(Str.ofString "abcdefgh").cps.toList, 5, rfl, rfl, by decide, by decide, by decide, ?_⟩
    walk_at "tx"
    refine ⟨_, _, rfl, rfl, by decide +kernel, ?_⟩
    generalize (WW.S (List.replicate (Int.toNat 5) (Str.ofString "abcdefgh").cps.toList).flatten) ++ (Str.ofString "abc") = z0
    walk_at "tx"
    have k1 : Kx h H H := fun _ _ _ e => e
    refine ⟨by show 0 ≤ sizeLine; decide, fun p1 hp1 => ?_⟩
    obtain ⟨np1, _⟩ := hT.free hp1
    have sp1 := same_upd (o := HO.lst []) hp1
    have gp1 : Tg (upd H p1 (HO.lst [])) h (.ref p1) := .inr (.inr (.inr (.inr (.inr ⟨_, _, rfl, .inl ⟨np1, upd_same⟩, .inl ⟨[], rfl, fun _ m => nomatch m⟩⟩))))
    replace k1 := k1.trans (Same.kx sp1)
    replace hT := hT.same sp1
    clear sp1 hp1
    generalize (upd H p1 (HO.lst [])) = H1 at *
    walk_at "tx"
    refine fun p2 hp2 => ?_
    obtain ⟨np2, _⟩ := hT.free hp2
    have sp2 := same_upd (o := HO.dK []) hp2
    have gp2 : Tg (upd H1 p2 (HO.dK [])) h (.ref p2) := .inr (.inr (.inr (.inr (.inl ⟨_, _, rfl, upd_same⟩))))
    replace gp1 := gp1.kx hT (Same.kx sp2)
    replace k1 := k1.trans (Same.kx sp2)
    replace hT := hT.same sp2
    clear sp2 hp2
    generalize (upd H1 p2 (HO.dK [])) = H2 at *
    walk_at "tx"
    refine ⟨by show 0 ≤ sizeLine; decide, fun p3 hp3 => ?_⟩
    obtain ⟨np3, _⟩ := hT.free hp3
    have sp3 := same_upd (o := HO.tup []) hp3
    have gp3 : Tg (upd H2 p3 (HO.tup [])) h (.ref p3) := .inr (.inr (.inr (.inr (.inr ⟨_, _, rfl, .inr upd_same, .inl ⟨[], rfl, fun _ m => nomatch m⟩⟩))))
    replace gp1 := gp1.kx hT (Same.kx sp3)
    replace gp2 := gp2.kx hT (Same.kx sp3)
    replace k1 := k1.trans (Same.kx sp3)
    replace hT := hT.same sp3
    clear sp3 hp3
    generalize (upd H2 p3 (HO.tup [])) = H3 at *
    walk_at "tx"
    refine ⟨by show 14 ≤ sizeLine; decide, fun l1 hl1 => ?_⟩
    obtain ⟨nl1, _⟩ := hT.free hl1
    have sl1 := same_upd (o := HO.lst [.non, .bl true, .bl false, .int 0, .int 7, .int (-1), .int (10 ^ Int.toNat 20), .str (Str.ofString ""), .str (Str.ofString "A"), .str (Str.ofString "a b"), .str z0, .ref p1, .ref p2, .ref p3]) hl1
    have el1 : (upd H3 l1 (HO.lst [.non, .bl true, .bl false, .int 0, .int 7, .int (-1), .int (10 ^ Int.toNat 20), .str (Str.ofString ""), .str (Str.ofString "A"), .str (Str.ofString "a b"), .str z0, .ref p1, .ref p2, .ref p3])) l1 = some (HO.lst [.non, .bl true, .bl false, .int 0, .int 7, .int (-1), .int (10 ^ Int.toNat 20), .str (Str.ofString ""), .str (Str.ofString "A"), .str (Str.ofString "a b"), .str z0, .ref p1, .ref p2, .ref p3]) := upd_same
    replace gp1 := gp1.kx hT (Same.kx sl1)
    replace gp2 := gp2.kx hT (Same.kx sl1)
    replace gp3 := gp3.kx hT (Same.kx sl1)
    replace k1 := k1.trans (Same.kx sl1)
    replace hT := hT.same sl1
    clear sl1 hl1
    generalize (upd H3 l1 (HO.lst [.non, .bl true, .bl false, .int 0, .int 7, .int (-1), .int (10 ^ Int.toNat 20), .str (Str.ofString ""), .str (Str.ofString "A"), .str (Str.ofString "a b"), .str z0, .ref p1, .ref p2, .ref p3])) = H4 at *
    walk_at "tx"
    refine ⟨by show 1 ≤ sizeLine; decide, fun q1 hq1 => ?_⟩
    obtain ⟨nq1, _⟩ := hT.free hq1
    have sq1 := same_upd (o := HO.lst [.str (Str.ofString "a")]) hq1
    have gq1 : Tg (upd H4 q1 (HO.lst [.str (Str.ofString "a")])) h (.ref q1) := .inr (.inr (.inr (.inr (.inr ⟨_, _, rfl, .inl ⟨nq1, upd_same⟩, .inr ⟨0, _, rfl, .inr ⟨rfl, .inr (.inr (.inl ⟨_, rfl⟩))⟩, fun j _ hj => absurd hj (Nat.not_lt_zero j)⟩⟩))))
    replace gp1 := gp1.kx hT (Same.kx sq1)
    replace gp2 := gp2.kx hT (Same.kx sq1)
    replace gp3 := gp3.kx hT (Same.kx sq1)
    replace el1 := sq1 _ _ el1
    replace k1 := k1.trans (Same.kx sq1)
    replace hT := hT.same sq1
    clear sq1 hq1
    generalize (upd H4 q1 (HO.lst [.str (Str.ofString "a")])) = H5 at *
    walk_at "tx"
    refine ⟨by show 2 ≤ sizeLine; decide, fun q2 hq2 => ?_⟩
    obtain ⟨nq2, _⟩ := hT.free hq2
    have sq2 := same_upd (o := HO.tup [.str (Str.ofString "a"), .str (Str.ofString "b")]) hq2
    have gq2 : Tg (upd H5 q2 (HO.tup [.str (Str.ofString "a"), .str (Str.ofString "b")])) h (.ref q2) := .inr (.inr (.inr (.inr (.inr ⟨_, _, rfl, .inr upd_same, .inr ⟨0, _, rfl, .inr ⟨rfl, .inr (.inr (.inl ⟨_, rfl⟩))⟩, fun j _ hj => absurd hj (Nat.not_lt_zero j)⟩⟩))))
    replace gp1 := gp1.kx hT (Same.kx sq2)
    replace gp2 := gp2.kx hT (Same.kx sq2)
    replace gp3 := gp3.kx hT (Same.kx sq2)
    replace gq1 := gq1.kx hT (Same.kx sq2)
    replace el1 := sq2 _ _ el1
    replace k1 := k1.trans (Same.kx sq2)
    replace hT := hT.same sq2
    clear sq2 hq2
    generalize (upd H5 q2 (HO.tup [.str (Str.ofString "a"), .str (Str.ofString "b")])) = H6 at *
    walk_at "tx"
    try unfold tDisp
    intro q3 hq3
    unfold tPairs
    walk_at "tx"
    unfold tPairs
    refine ⟨upd_same, [(Sum.inr (Str.ofString "a"), V.int 1)], rfl, by decide, ?_⟩
    rw [upd_upd]
    obtain ⟨nq3, _⟩ := hT.free hq3
    have sq3 := same_upd (o := HO.dK (mergeK [] [(Sum.inr (Str.ofString "a"), V.int 1)])) hq3
    have gq3 : Tg (upd H6 q3 (HO.dK (mergeK [] [(Sum.inr (Str.ofString "a"), V.int 1)]))) h (.ref q3) := .inr (.inr (.inr (.inr (.inl ⟨_, _, rfl, upd_same⟩))))
    replace gp1 := gp1.kx hT (Same.kx sq3)
    replace gp2 := gp2.kx hT (Same.kx sq3)
    replace gp3 := gp3.kx hT (Same.kx sq3)
    replace gq1 := gq1.kx hT (Same.kx sq3)
    replace gq2 := gq2.kx hT (Same.kx sq3)
    replace el1 := sq3 _ _ el1
    replace k1 := k1.trans (Same.kx sq3)
    replace hT := hT.same sq3
    clear sq3 hq3
    generalize (upd H6 q3 (HO.dK (mergeK [] [(Sum.inr (Str.ofString "a"), V.int 1)]))) = H7 at *
    walk_at "tx"
    refine ⟨by show 1 ≤ sizeLine; decide, fun q4 hq4 => ?_⟩
    obtain ⟨nq4, _⟩ := hT.free hq4
    have sq4 := same_upd (o := HO.lst [.str (Str.ofString "a")]) hq4
    have eq4 : (upd H7 q4 (HO.lst [.str (Str.ofString "a")])) q4 = some (HO.lst [.str (Str.ofString "a")]) := upd_same
    replace gp1 := gp1.kx hT (Same.kx sq4)
    replace gp2 := gp2.kx hT (Same.kx sq4)
    replace gp3 := gp3.kx hT (Same.kx sq4)
    replace gq1 := gq1.kx hT (Same.kx sq4)
    replace gq2 := gq2.kx hT (Same.kx sq4)
    replace gq3 := gq3.kx hT (Same.kx sq4)
    replace el1 := sq4 _ _ el1
    replace k1 := k1.trans (Same.kx sq4)
    replace hT := hT.same sq4
    clear sq4 hq4
    generalize (upd H7 q4 (HO.lst [.str (Str.ofString "a")])) = H8 at *
    walk_at "tx"
    try unfold tDisp
    intro q5 hq5
    unfold tPairs
    walk_at "tx"
    unfold tPairs
    refine ⟨upd_same, [(Sum.inr (Str.ofString "b"), V.non)], rfl, by decide, ?_⟩
    rw [upd_upd]
    obtain ⟨nq5, _⟩ := hT.free hq5
    have sq5 := same_upd (o := HO.dK (mergeK [] [(Sum.inr (Str.ofString "b"), V.non)])) hq5
    have gq5 : Tg (upd H8 q5 (HO.dK (mergeK [] [(Sum.inr (Str.ofString "b"), V.non)]))) h (.ref q5) := .inr (.inr (.inr (.inr (.inl ⟨_, _, rfl, upd_same⟩))))
    replace gp1 := gp1.kx hT (Same.kx sq5)
    replace gp2 := gp2.kx hT (Same.kx sq5)
    replace gp3 := gp3.kx hT (Same.kx sq5)
    replace gq1 := gq1.kx hT (Same.kx sq5)
    replace gq2 := gq2.kx hT (Same.kx sq5)
    replace gq3 := gq3.kx hT (Same.kx sq5)
    replace el1 := sq5 _ _ el1
    replace eq4 := sq5 _ _ eq4
    replace k1 := k1.trans (Same.kx sq5)
    replace hT := hT.same sq5
    clear sq5 hq5
    generalize (upd H8 q5 (HO.dK (mergeK [] [(Sum.inr (Str.ofString "b"), V.non)]))) = H9 at *
    walk_at "tx"
    refine ⟨by show 2 ≤ sizeLine; decide, fun q6 hq6 => ?_⟩
    obtain ⟨nq6, _⟩ := hT.free hq6
    have sq6 := same_upd (o := HO.lst [.ref q4, .ref q5]) hq6
    have gq6 : Tg (upd H9 q6 (HO.lst [.ref q4, .ref q5])) h (.ref q6) := .inr (.inr (.inr (.inr (.inr ⟨_, _, rfl, .inl ⟨nq6, upd_same⟩, .inr ⟨0, _, rfl, .inr ⟨rfl, .inr (.inr (.inr ⟨_, _, rfl, nq4, (same_upd hq6) _ _ eq4⟩))⟩, fun j _ hj => absurd hj (Nat.not_lt_zero j)⟩⟩))))
    replace gp1 := gp1.kx hT (Same.kx sq6)
    replace gp2 := gp2.kx hT (Same.kx sq6)
    replace gp3 := gp3.kx hT (Same.kx sq6)
    replace gq1 := gq1.kx hT (Same.kx sq6)
    replace gq2 := gq2.kx hT (Same.kx sq6)
    replace gq3 := gq3.kx hT (Same.kx sq6)
    replace gq5 := gq5.kx hT (Same.kx sq6)
    replace el1 := sq6 _ _ el1
    replace eq4 := sq6 _ _ eq4
    replace k1 := k1.trans (Same.kx sq6)
    replace hT := hT.same sq6
    clear sq6 hq6
    generalize (upd H9 q6 (HO.lst [.ref q4, .ref q5])) = H10 at *
    walk_at "tx"
    refine ⟨by show 1 ≤ sizeLine; decide, fun q7 hq7 => ?_⟩
    obtain ⟨nq7, _⟩ := hT.free hq7
    have sq7 := same_upd (o := HO.tup [.str (Str.ofString "a")]) hq7
    have gq7 : Tg (upd H10 q7 (HO.tup [.str (Str.ofString "a")])) h (.ref q7) := .inr (.inr (.inr (.inr (.inr ⟨_, _, rfl, .inr upd_same, .inr ⟨0, _, rfl, .inr ⟨rfl, .inr (.inr (.inl ⟨_, rfl⟩))⟩, fun j _ hj => absurd hj (Nat.not_lt_zero j)⟩⟩))))
    replace gp1 := gp1.kx hT (Same.kx sq7)
    replace gp2 := gp2.kx hT (Same.kx sq7)
    replace gp3 := gp3.kx hT (Same.kx sq7)
    replace gq1 := gq1.kx hT (Same.kx sq7)
    replace gq2 := gq2.kx hT (Same.kx sq7)
    replace gq3 := gq3.kx hT (Same.kx sq7)
    replace gq6 := gq6.kx hT (Same.kx sq7)
    replace el1 := sq7 _ _ el1
    replace eq4 := sq7 _ _ eq4
    replace k1 := k1.trans (Same.kx sq7)
    replace hT := hT.same sq7
    clear sq7 hq7
    generalize (upd H10 q7 (HO.tup [.str (Str.ofString "a")])) = H11 at *
    walk_at "tx"
    refine ⟨by show 6 ≤ sizeLine; decide, fun l2 hl2 => ?_⟩
    obtain ⟨nl2, _⟩ := hT.free hl2
    have sl2 := same_upd (o := HO.lst [.ref q1, .ref q2, .ref q3, .ref q6, .str (Str.ofString "a1"), .ref q7]) hl2
    have el2 : (upd H11 l2 (HO.lst [.ref q1, .ref q2, .ref q3, .ref q6, .str (Str.ofString "a1"), .ref q7])) l2 = some (HO.lst [.ref q1, .ref q2, .ref q3, .ref q6, .str (Str.ofString "a1"), .ref q7]) := upd_same
    replace gp1 := gp1.kx hT (Same.kx sl2)
    replace gp2 := gp2.kx hT (Same.kx sl2)
    replace gp3 := gp3.kx hT (Same.kx sl2)
    replace gq1 := gq1.kx hT (Same.kx sl2)
    replace gq2 := gq2.kx hT (Same.kx sl2)
    replace gq3 := gq3.kx hT (Same.kx sl2)
    replace gq6 := gq6.kx hT (Same.kx sl2)
    replace gq7 := gq7.kx hT (Same.kx sl2)
    replace el1 := sl2 _ _ el1
    replace eq4 := sl2 _ _ eq4
    replace k1 := k1.trans (Same.kx sl2)
    replace hT := hT.same sl2
    clear sl2 hl2
    generalize (upd H11 l2 (HO.lst [.ref q1, .ref q2, .ref q3, .ref q6, .str (Str.ofString "a1"), .ref q7])) = H12 at *
    walk_at "tx"
    refine ⟨l1, l2, _, _, rfl, rfl, el1, el2, by show 20 ≤ sizeLine; decide, fun p hp => ?_⟩
    have all : ∀ v ∈ [V.non, V.bl true, V.bl false, V.int 0, V.int 7, V.int (-1), V.int (10 ^ Int.toNat 20), V.str (Str.ofString ""), V.str (Str.ofString "A"), V.str (Str.ofString "a b"), V.str z0, V.ref p1, V.ref p2, V.ref p3] ++ [V.ref q1, V.ref q2, V.ref q3, V.ref q6, V.str (Str.ofString "a1"), V.ref q7], Tg H12 h v := by
      refine List.forall_mem_cons.mpr ⟨.inl rfl, ?_⟩
      refine List.forall_mem_cons.mpr ⟨.inr (.inr (.inl ⟨_, rfl⟩)), ?_⟩
      refine List.forall_mem_cons.mpr ⟨.inr (.inr (.inl ⟨_, rfl⟩)), ?_⟩
      refine List.forall_mem_cons.mpr ⟨.inr (.inl ⟨_, rfl⟩), ?_⟩
      refine List.forall_mem_cons.mpr ⟨.inr (.inl ⟨_, rfl⟩), ?_⟩
      refine List.forall_mem_cons.mpr ⟨.inr (.inl ⟨_, rfl⟩), ?_⟩
      refine List.forall_mem_cons.mpr ⟨.inr (.inl ⟨_, rfl⟩), ?_⟩
      refine List.forall_mem_cons.mpr ⟨.inr (.inr (.inr (.inl ⟨_, rfl⟩))), ?_⟩
      refine List.forall_mem_cons.mpr ⟨.inr (.inr (.inr (.inl ⟨_, rfl⟩))), ?_⟩
      refine List.forall_mem_cons.mpr ⟨.inr (.inr (.inr (.inl ⟨_, rfl⟩))), ?_⟩
      refine List.forall_mem_cons.mpr ⟨.inr (.inr (.inr (.inl ⟨_, rfl⟩))), ?_⟩
      refine List.forall_mem_cons.mpr ⟨gp1, ?_⟩
      refine List.forall_mem_cons.mpr ⟨gp2, ?_⟩
      refine List.forall_mem_cons.mpr ⟨gp3, ?_⟩
      refine List.forall_mem_cons.mpr ⟨gq1, ?_⟩
      refine List.forall_mem_cons.mpr ⟨gq2, ?_⟩
      refine List.forall_mem_cons.mpr ⟨gq3, ?_⟩
      refine List.forall_mem_cons.mpr ⟨gq6, ?_⟩
      refine List.forall_mem_cons.mpr ⟨.inr (.inr (.inr (.inl ⟨_, rfl⟩))), ?_⟩
      refine List.forall_mem_cons.mpr ⟨gq7, ?_⟩
      exact fun _ m => nomatch m
    have lx : ([V.non, V.bl true, V.bl false, V.int 0, V.int 7, V.int (-1), V.int (10 ^ Int.toNat 20), V.str (Str.ofString ""), V.str (Str.ofString "A"), V.str (Str.ofString "a b"), V.str z0, V.ref p1, V.ref p2, V.ref p3] ++ [V.ref q1, V.ref q2, V.ref q3, V.ref q6, V.str (Str.ofString "a1"), V.ref q7]).length = 20 := rfl
    generalize [V.non, V.bl true, V.bl false, V.int 0, V.int 7, V.int (-1), V.int (10 ^ Int.toNat 20), V.str (Str.ofString ""), V.str (Str.ofString "A"), V.str (Str.ofString "a b"), V.str z0, V.ref p1, V.ref p2, V.ref p3] ++ [V.ref q1, V.ref q2, V.ref q3, V.ref q6, V.str (Str.ofString "a1"), V.ref q7] = xs at *
    obtain ⟨np, _⟩ := hT.free hp
    have sp := same_upd (o := HO.lst xs) hp
    have ep : upd H12 p (.lst xs) p = some (.lst xs) := upd_same
    replace all := fun v m => (all v m).kx hT (Same.kx sp)
    replace k1 := k1.trans (Same.kx sp)
    replace hT := hT.same sp
    clear sp hp
    generalize upd H12 p (.lst xs) = H20 at *
    walk_at "tx"
    rw [lx]
    refine ⟨h, c, 20, rfl, hT, by decide, log2_lt (by decide), fun r H21 r0 r20 hT21 b21 => ?_⟩
    obtain ⟨r, rfl⟩ := Int.eq_ofNat_of_zero_le r0
    have rl : r < xs.length := by omega
    replace ep := b21.kp _ _ np ep
    refine RD.d_ixL (SqL.of ep) (v := xs[r]) (atI_nat (List.getElem?_eq_getElem rl)) ?_
    exact k _ _ hT21 (k1.trans b21.kp) ((all _ (List.getElem_mem rl)).kx hT b21.kp)
end
theorem row_all {H : Hp} {h : Addr} : ∀ {xs : List V}, (∀ x ∈ xs, ∃ l : Nat, x = .int l ∧ 1 ≤ l ∧ l ≤ 60) → ∃ ls : List Nat, xs = Ns ls ∧ ∀ l ∈ ls, 1 ≤ l ∧ l ≤ 60
  | [], _ => ⟨[], rfl, fun _ m => nomatch m⟩
  | x :: xs, all => by
    obtain ⟨l, rfl, hl⟩ := all x (List.mem_cons_self ..)
    obtain ⟨ls, rfl, h⟩ := row_all (H := H) (h := h) fun y m => all y (List.mem_cons_of_mem _ m)
    refine ⟨l :: ls, rfl, fun y m => ?_⟩
    rcases List.mem_cons.mp m with rfl | m
    · exact hl
    · exact h y m
theorem ns_ok {ls : List Nat} (ok : Okl ls) {x : V} (m : x ∈ Ns ls) : ∃ l : Nat, x = .int l ∧ 1 ≤ l ∧ l ≤ 60 := by
  obtain ⟨l, ml, rfl⟩ := List.mem_map.mp m
  exact ⟨l, rfl, ok.lo l ml, ok.hi l ml⟩
theorem row_bent {H : Hp} {h : Addr} {xs ys : List V} {y : V} {b : Bool} (hx : ∀ x ∈ xs, ∃ l : Nat, x = .int l ∧ 1 ≤ l ∧ l ≤ 60) (hy : ∀ x ∈ ys, ∃ l : Nat, x = .int l ∧ 1 ≤ l ∧ l ≤ 60) (i : Itm H h y b) : RowT H h (xs ++ [y] ++ ys) := by
  cases b with
  | true =>
    rcases i with ⟨i, rfl, e⟩ | ⟨e, _⟩
    · have e := of_decide_eq_true e.symm
      refine .inl (row_all (H := H) (h := h) fun x m => ?_)
      rcases List.mem_append.mp m with m | m
      · rcases List.mem_append.mp m with m | m
        · exact hx x m
        · rw [List.mem_singleton.mp m]
          exact ⟨i.toNat, by rw [Int.toNat_of_nonneg (by omega)], by omega, by omega⟩
      · exact hy x m
    · cases e
  | false =>
    refine .inr ⟨xs.length, y, ?_, i, fun j z hj ez => ?_⟩
    · rw [List.append_assoc, List.getElem?_append_right (Nat.le_refl _), Nat.sub_self]; rfl
    · rw [List.append_assoc, List.getElem?_append_left hj] at ez
      obtain ⟨l, rfl, h1, h2⟩ := hx z (List.mem_of_getElem? ez)
      exact .inl ⟨l, rfl, (decide_eq_true (by omega)).symm⟩
theorem cut_ok {xs : List V} (hx : ∀ x ∈ xs, ∃ l : Nat, x = .int l ∧ 1 ≤ l ∧ l ≤ 60) {i j : Option Int} : ∀ x ∈ cutV xs i j, ∃ l : Nat, x = .int l ∧ 1 ≤ l ∧ l ≤ 60 := fun x m => hx x (List.mem_of_mem_drop (List.mem_of_mem_take m))
def spBent : Sp := fun vs H Q _ => ∃ (h c p : Addr) (ls : List Nat), vs = [.ref h, .ref p] ∧ TapeAt H h c ∧ H p = some (.lst (Ns ls)) ∧ p ≠ h ∧ Okl ls ∧ ∀ (v : V) (H' : Hp), TapeAt H' h c → Kx h H H' → Tg H' h v → Q v H'
section
variable {P : Program} {w : World} {K : PySem.W.Frag} {mg : Str → Option Value} {base : Heap} {H : Hp}
set_option maxRecDepth 20000 in
theorem ok_law_bent (T : Top K mg) : FnOk P w K mg base CX0 4 T.f_law_bent T.fd_law_bent ["tape", "lengths"] spBent := by
  refine T.F_law_bent.ok sc_law_bent (fun vs H Q E h => ?_) (fun cdv A outer s H vs Q E hr h => ?_)
  · obtain ⟨h, c, p, ls, rfl, _⟩ := h; rfl
  · obtain ⟨h, c, p, ls, rfl, hT, ep, np, ok, k⟩ := h
    refine ⟨_, (pss_cons (ps_set (i := 2) sc_law_bent.nd rfl (Or.inl rfl) (pe_call (ok_law_pick T) (hr.mono (by decide)) (by rfl) T.g_law_pick T.F_law_pick.kp T.b_law_pick .nil pass0 (pa_cons (pv 0) (pa_cons pe_int pa_nil))))
 (pss_cons (ps_set (i := 3) sc_law_bent.nd rfl (Or.inl rfl) (pe_call (ok_law_pick T) (hr.mono (by decide)) (by rfl) T.g_law_pick T.F_law_pick.kp T.b_law_pick .nil pass0 (pa_cons (pv 0) (pa_cons (pe_op op_add (pe_callB RD.c_len (by rfl) T.n_len (by decide +kernel) (pa_cons (pv 1) pa_nil)) pe_int) pa_nil))))
 (pss_cons (ps_if (pt_cmpR op_eq (pv 2) pe_int (nomark _))
 (pss_one (ps_ret (pe_call (ok_law_odd T) (hr.mono (by decide)) (by rfl) T.g_law_odd T.F_law_odd.kp T.b_law_odd .nil pass0 (pa_cons (pv 0) pa_nil))))
 pss_nil)
 (pss_cons (ps_if (pt_cmpR op_eq (pv 2) pe_int (nomark _))
 (pss_one (ps_ret (pe_slice sl_list (pe_op op_rep (pv 1) pe_int) po_none (po_some (pe_op op_add pe_int (pe_call (ok_law_pick T) (hr.mono (by decide)) (by rfl) T.g_law_pick T.F_law_pick.kp T.b_law_pick .nil pass0 (pa_cons (pv 0) (pa_cons pe_int pa_nil))))))))
 pss_nil)
 (pss_cons (ps_set (i := 4) sc_law_bent.nd rfl (Or.inl rfl) (pe_ix ix_list (pe_lst (pa_cons pe_int (pa_cons pe_int (pa_cons pe_bl (pa_cons pe_str (pa_cons pe_non (pa_cons (pe_lst (pa_cons pe_int pa_nil)) (pa_cons pe_int (pa_cons (pe_un un_neg pe_int) pa_nil))))))))) (pe_call (ok_law_pick T) (hr.mono (by decide)) (by rfl) T.g_law_pick T.F_law_pick.kp T.b_law_pick .nil pass0 (pa_cons (pv 0) (pa_cons pe_int pa_nil))) (fun _ _ => rfl)))
 (pss_cons (ps_if (pt_cmpR op_eq (pv 2) pe_int (nomark _))
 (pss_one (ps_ret (pe_callTy (OQ.tupK K) (by rfl) T.n_tuple (by decide +kernel) (pa_cons (pe_op op_cat (pe_op op_cat (pe_slice sl_list (pv 1) po_none (po_some (pv 3))) (pe_lst (pa_cons (pv 4) pa_nil))) (pe_slice sl_list (pv 1) (po_some (pe_op op_add (pv 3) pe_int)) po_none)) pa_nil))))
 pss_nil)
 (pss_one (ps_ret (pe_op op_cat (pe_op op_cat (pe_slice sl_list (pv 1) po_none (po_some (pv 3))) (pe_lst (pa_cons (pv 4) pa_nil))) (pe_slice sl_list (pv 1) (po_some (pv 3)) po_none)))))))))), ?_⟩
    have n1 := ok.ne
    have n8 := ok.l8
    walk_at "tx"
    refine ⟨h, c, 5, rfl, hT, by decide, log2_lt (by decide), fun kd H1 kd0 kd5 hT1 b1 => ?_⟩
    have k1 : Kx h H H1 := b1.kp
    replace ep := b1.kp _ _ np ep
    clear b1 hT
    walk_at "tx"
    rw [WW.Ns_len]
    refine ⟨h, c, (ls.length : Int) + 1, rfl, hT1, by omega, log2_lt (by omega), fun at' H2 at0 atl hT2 b2 => ?_⟩
    replace k1 := k1.trans b2.kp
    replace ep := b2.kp _ _ np ep
    clear b2 hT1
    obtain ⟨n, rfl⟩ := Int.eq_ofNat_of_zero_le at0
    walk_at "tx"
    refine RD.iteD (fun c0 => ?_) (fun c0 => ?_)
    · walk_at "tx"
      exact ⟨h, c, rfl, hT2, fun v H3 hT3 k3 t => k v H3 hT3 (k1.trans k3) t⟩
    · walk_at "tx"
      refine RD.iteD (fun c1 => ?_) (fun c1 => ?_)
      · walk_at "tx"
        refine ⟨p, 9, _, rfl, rfl, ep, by decide, by decide, Nat.le_trans (by rw [WW.Ns_len]; exact Nat.mul_le_mul_right _ n8 : _ ≤ 8 * 9) (by decide), fun q hq => ?_⟩
        obtain ⟨nq, _⟩ := hT2.free hq
        have sq := same_upd (o := HO.lst (List.replicate (Int.toNat 9) (Ns ls)).flatten) hq
        have eq : (upd H2 q (HO.lst (List.replicate (Int.toNat 9) (Ns ls)).flatten)) q = some (HO.lst (List.replicate (Int.toNat 9) (Ns ls)).flatten) := upd_same
        replace ep := sq _ _ ep
        replace k1 := k1.trans (Same.kx sq)
        replace hT2 := hT2.same sq
        clear sq hq
        generalize (upd H2 q (HO.lst (List.replicate (Int.toNat 9) (Ns ls)).flatten)) = H3 at *
        walk_at "tx"
        refine ⟨h, c, 2, rfl, hT2, by decide, log2_lt (by decide), fun r H4 r0 r2 hT4 b4 => ?_⟩
        replace eq := b4.kp _ _ nq eq
        replace k1 := k1.trans b4.kp
        walk_at "tx"
        refine ⟨q, _, rfl, SqL.of eq, fun t ht => ?_⟩
        walk_at "tx"
        obtain ⟨nt, _⟩ := hT4.free ht
        refine k _ _ (hT4.same (same_upd ht)) (k1.trans (Same.kx (same_upd ht))) (.inr (.inr (.inr (.inr (.inr ⟨_, _, rfl, .inl ⟨nt, upd_same⟩, .inl (row_all (H := H) (h := h) (cut_ok fun x m => ?_))⟩)))))
        obtain ⟨l, ml, mx⟩ := List.mem_flatten.mp m
        rw [(List.mem_replicate.mp ml).2] at mx
        exact ns_ok ok mx
      · walk_at "tx"
        refine ⟨by show 1 ≤ sizeLine; decide, fun q hq => ?_⟩
        obtain ⟨nq, _⟩ := hT2.free hq
        have sq := same_upd (o := HO.lst [.int 4]) hq
        have eq : (upd H2 q (HO.lst [.int 4])) q = some (HO.lst [.int 4]) := upd_same
        replace ep := sq _ _ ep
        replace k1 := k1.trans (Same.kx sq)
        replace hT2 := hT2.same sq
        clear sq hq
        generalize (upd H2 q (HO.lst [.int 4])) = H3 at *
        walk_at "tx"
        refine ⟨by show 8 ≤ sizeLine; decide, fun w hw => ?_⟩
        obtain ⟨nw, _⟩ := hT2.free hw
        have sw := same_upd (o := HO.lst [V.int 0, V.int 61, V.bl true, V.str (Str.ofString "3"), V.non, V.ref q, V.int 60, V.int (-5)]) hw
        have ew : (upd H3 w (HO.lst [V.int 0, V.int 61, V.bl true, V.str (Str.ofString "3"), V.non, V.ref q, V.int 60, V.int (-5)])) w = some (HO.lst [V.int 0, V.int 61, V.bl true, V.str (Str.ofString "3"), V.non, V.ref q, V.int 60, V.int (-5)]) := upd_same
        replace ep := sw _ _ ep
        replace eq := sw _ _ eq
        replace k1 := k1.trans (Same.kx sw)
        replace hT2 := hT2.same sw
        clear sw hw
        generalize (upd H3 w (HO.lst [V.int 0, V.int 61, V.bl true, V.str (Str.ofString "3"), V.non, V.ref q, V.int 60, V.int (-5)])) = H4 at *
        walk_at "tx"
        have all : ∀ v ∈ [V.int 0, V.int 61, V.bl true, V.str (Str.ofString "3"), V.non, V.ref q, V.int 60, V.int (-5)], ∃ b, Itm H4 h v b := by
          refine List.forall_mem_cons.mpr ⟨⟨_, .inl ⟨_, rfl, rfl⟩⟩, ?_⟩
          refine List.forall_mem_cons.mpr ⟨⟨_, .inl ⟨_, rfl, rfl⟩⟩, ?_⟩
          refine List.forall_mem_cons.mpr ⟨⟨_, .inr ⟨rfl, .inr (.inl ⟨_, rfl⟩)⟩⟩, ?_⟩
          refine List.forall_mem_cons.mpr ⟨⟨_, .inr ⟨rfl, .inr (.inr (.inl ⟨_, rfl⟩))⟩⟩, ?_⟩
          refine List.forall_mem_cons.mpr ⟨⟨_, .inr ⟨rfl, .inl rfl⟩⟩, ?_⟩
          refine List.forall_mem_cons.mpr ⟨⟨_, .inr ⟨rfl, .inr (.inr (.inr ⟨_, _, rfl, nq, eq⟩))⟩⟩, ?_⟩
          refine List.forall_mem_cons.mpr ⟨⟨_, .inl ⟨_, rfl, rfl⟩⟩, ?_⟩
          refine List.forall_mem_cons.mpr ⟨⟨_, .inl ⟨_, rfl, rfl⟩⟩, ?_⟩
          exact fun _ m => nomatch m
        have lx : [V.int 0, V.int 61, V.bl true, V.str (Str.ofString "3"), V.non, V.ref q, V.int 60, V.int (-5)].length = 8 := rfl
        generalize [V.int 0, V.int 61, V.bl true, V.str (Str.ofString "3"), V.non, V.ref q, V.int 60, V.int (-5)] = xs at *
        refine ⟨h, c, 8, rfl, hT2, by decide, log2_lt (by decide), fun r H5 r0 r8 hT5 b5 => ?_⟩
        obtain ⟨r, rfl⟩ := Int.eq_ofNat_of_zero_le r0
        have rl : r < xs.length := by omega
        replace ep := b5.kp _ _ np ep
        replace ew := b5.kp _ _ nw ew
        refine RD.d_ixL (SqL.of ew) (v := xs[r]) (atI_nat (List.getElem?_eq_getElem rl)) ?_
        obtain ⟨b, itm⟩ := all _ (List.getElem_mem rl)
        replace itm := itm.kx b5.kp
        replace k1 := k1.trans b5.kp
        generalize xs[r] = y at *
        clear b5 hT2 all ew eq
        have hT2 := hT5
        walk_at "tx"
        refine RD.iteD (fun c2 => ?_) (fun c2 => ?_)
        · walk_at "tx"
          refine ⟨p, _, rfl, SqL.of ep, fun a ha => ?_⟩
          obtain ⟨na, _⟩ := hT2.free ha
          have sa := same_upd (o := HO.lst (cutV (Ns ls) none (some (n : Nat)))) ha
          have ea : (upd H5 a (HO.lst (cutV (Ns ls) none (some (n : Nat))))) a = some (HO.lst (cutV (Ns ls) none (some (n : Nat)))) := upd_same
          replace ep := sa _ _ ep
          replace itm := itm.kx (Same.kx sa)
          replace k1 := k1.trans (Same.kx sa)
          replace hT2 := hT2.same sa
          clear sa ha
          generalize (upd H5 a (HO.lst (cutV (Ns ls) none (some (n : Nat))))) = H6 at *
          walk_at "tx"
          refine ⟨by show 1 ≤ sizeLine; decide, fun o1 ho1 => ?_⟩
          obtain ⟨no1, _⟩ := hT2.free ho1
          have so1 := same_upd (o := HO.lst [y]) ho1
          have eo1 : (upd H6 o1 (HO.lst [y])) o1 = some (HO.lst [y]) := upd_same
          replace ep := so1 _ _ ep
          replace ea := so1 _ _ ea
          replace itm := itm.kx (Same.kx so1)
          replace k1 := k1.trans (Same.kx so1)
          replace hT2 := hT2.same so1
          clear so1 ho1
          generalize (upd H6 o1 (HO.lst [y])) = H7 at *
          walk_at "tx"
          refine ⟨a, o1, _, _, rfl, rfl, ea, eo1, Nat.le_trans (Nat.add_le_add_right (by have := cutV_length (Ns ls) none (some (n : Nat)); rw [WW.Ns_len] at this; omega : _ ≤ 8) 1) (by decide), fun a2 ha2 => ?_⟩
          obtain ⟨na2, _⟩ := hT2.free ha2
          have sa2 := same_upd (o := HO.lst (cutV (Ns ls) none (some (n : Nat)) ++ [y])) ha2
          have ea2 : (upd H7 a2 (HO.lst (cutV (Ns ls) none (some (n : Nat)) ++ [y]))) a2 = some (HO.lst (cutV (Ns ls) none (some (n : Nat)) ++ [y])) := upd_same
          replace ep := sa2 _ _ ep
          replace ea := sa2 _ _ ea
          replace eo1 := sa2 _ _ eo1
          replace itm := itm.kx (Same.kx sa2)
          replace k1 := k1.trans (Same.kx sa2)
          replace hT2 := hT2.same sa2
          clear sa2 ha2
          generalize (upd H7 a2 (HO.lst (cutV (Ns ls) none (some (n : Nat)) ++ [y]))) = H8 at *
          walk_at "tx"
          refine ⟨p, _, rfl, SqL.of ep, fun a3 ha3 => ?_⟩
          obtain ⟨na3, _⟩ := hT2.free ha3
          have sa3 := same_upd (o := HO.lst (cutV (Ns ls) (some ((n : Nat) + 1)) none)) ha3
          have ea3 : (upd H8 a3 (HO.lst (cutV (Ns ls) (some ((n : Nat) + 1)) none))) a3 = some (HO.lst (cutV (Ns ls) (some ((n : Nat) + 1)) none)) := upd_same
          replace ep := sa3 _ _ ep
          replace ea := sa3 _ _ ea
          replace eo1 := sa3 _ _ eo1
          replace ea2 := sa3 _ _ ea2
          replace itm := itm.kx (Same.kx sa3)
          replace k1 := k1.trans (Same.kx sa3)
          replace hT2 := hT2.same sa3
          clear sa3 ha3
          generalize (upd H8 a3 (HO.lst (cutV (Ns ls) (some ((n : Nat) + 1)) none))) = H9 at *
          walk_at "tx"
          refine ⟨a2, a3, _, _, rfl, rfl, ea2, ea3, Nat.le_trans (Nat.add_le_add (by rw [List.length_append]; have := cutV_length (Ns ls) none (some (n : Nat)); rw [WW.Ns_len] at this; show _ + 1 ≤ 9; omega : _ ≤ 9) (by have := cutV_length (Ns ls) (some ((n : Nat) + 1)) none; rw [WW.Ns_len] at this; omega : _ ≤ 8)) (by decide), fun a4 ha4 => ?_⟩
          obtain ⟨na4, _⟩ := hT2.free ha4
          have sa4 := same_upd (o := HO.lst (cutV (Ns ls) none (some (n : Nat)) ++ [y] ++ cutV (Ns ls) (some ((n : Nat) + 1)) none)) ha4
          have ea4 : (upd H9 a4 (HO.lst (cutV (Ns ls) none (some (n : Nat)) ++ [y] ++ cutV (Ns ls) (some ((n : Nat) + 1)) none))) a4 = some (HO.lst (cutV (Ns ls) none (some (n : Nat)) ++ [y] ++ cutV (Ns ls) (some ((n : Nat) + 1)) none)) := upd_same
          replace ep := sa4 _ _ ep
          replace ea := sa4 _ _ ea
          replace eo1 := sa4 _ _ eo1
          replace ea2 := sa4 _ _ ea2
          replace ea3 := sa4 _ _ ea3
          replace itm := itm.kx (Same.kx sa4)
          replace k1 := k1.trans (Same.kx sa4)
          replace hT2 := hT2.same sa4
          clear sa4 ha4
          generalize (upd H9 a4 (HO.lst (cutV (Ns ls) none (some (n : Nat)) ++ [y] ++ cutV (Ns ls) (some ((n : Nat) + 1)) none))) = H10 at *
          walk_at "tx"
          have row : RowT H10 h (cutV (Ns ls) none (some (n : Nat)) ++ [y] ++ cutV (Ns ls) (some ((n : Nat) + 1)) none) := row_bent (cut_ok fun x m => ns_ok ok m) (cut_ok fun x m => ns_ok ok m) itm
          refine ⟨a4, _, rfl, .inl ⟨SqL.of ea4, fun t ht => ?_⟩⟩
          walk_at "tx"
          exact k _ _ (hT2.same (same_upd ht)) (k1.trans (Same.kx (same_upd ht))) (.inr (.inr (.inr (.inr (.inr ⟨_, _, rfl, .inr upd_same, row.kx (Same.kx (same_upd ht))⟩)))))
        · walk_at "tx"
          refine ⟨p, _, rfl, SqL.of ep, fun a ha => ?_⟩
          obtain ⟨na, _⟩ := hT2.free ha
          have sa := same_upd (o := HO.lst (cutV (Ns ls) none (some (n : Nat)))) ha
          have ea : (upd H5 a (HO.lst (cutV (Ns ls) none (some (n : Nat))))) a = some (HO.lst (cutV (Ns ls) none (some (n : Nat)))) := upd_same
          replace ep := sa _ _ ep
          replace itm := itm.kx (Same.kx sa)
          replace k1 := k1.trans (Same.kx sa)
          replace hT2 := hT2.same sa
          clear sa ha
          generalize (upd H5 a (HO.lst (cutV (Ns ls) none (some (n : Nat))))) = H6 at *
          walk_at "tx"
          refine ⟨by show 1 ≤ sizeLine; decide, fun o1 ho1 => ?_⟩
          obtain ⟨no1, _⟩ := hT2.free ho1
          have so1 := same_upd (o := HO.lst [y]) ho1
          have eo1 : (upd H6 o1 (HO.lst [y])) o1 = some (HO.lst [y]) := upd_same
          replace ep := so1 _ _ ep
          replace ea := so1 _ _ ea
          replace itm := itm.kx (Same.kx so1)
          replace k1 := k1.trans (Same.kx so1)
          replace hT2 := hT2.same so1
          clear so1 ho1
          generalize (upd H6 o1 (HO.lst [y])) = H7 at *
          walk_at "tx"
          refine ⟨a, o1, _, _, rfl, rfl, ea, eo1, Nat.le_trans (Nat.add_le_add_right (by have := cutV_length (Ns ls) none (some (n : Nat)); rw [WW.Ns_len] at this; omega : _ ≤ 8) 1) (by decide), fun a2 ha2 => ?_⟩
          obtain ⟨na2, _⟩ := hT2.free ha2
          have sa2 := same_upd (o := HO.lst (cutV (Ns ls) none (some (n : Nat)) ++ [y])) ha2
          have ea2 : (upd H7 a2 (HO.lst (cutV (Ns ls) none (some (n : Nat)) ++ [y]))) a2 = some (HO.lst (cutV (Ns ls) none (some (n : Nat)) ++ [y])) := upd_same
          replace ep := sa2 _ _ ep
          replace ea := sa2 _ _ ea
          replace eo1 := sa2 _ _ eo1
          replace itm := itm.kx (Same.kx sa2)
          replace k1 := k1.trans (Same.kx sa2)
          replace hT2 := hT2.same sa2
          clear sa2 ha2
          generalize (upd H7 a2 (HO.lst (cutV (Ns ls) none (some (n : Nat)) ++ [y]))) = H8 at *
          walk_at "tx"
          refine ⟨p, _, rfl, SqL.of ep, fun a3 ha3 => ?_⟩
          obtain ⟨na3, _⟩ := hT2.free ha3
          have sa3 := same_upd (o := HO.lst (cutV (Ns ls) (some ((n : Nat))) none)) ha3
          have ea3 : (upd H8 a3 (HO.lst (cutV (Ns ls) (some ((n : Nat))) none))) a3 = some (HO.lst (cutV (Ns ls) (some ((n : Nat))) none)) := upd_same
          replace ep := sa3 _ _ ep
          replace ea := sa3 _ _ ea
          replace eo1 := sa3 _ _ eo1
          replace ea2 := sa3 _ _ ea2
          replace itm := itm.kx (Same.kx sa3)
          replace k1 := k1.trans (Same.kx sa3)
          replace hT2 := hT2.same sa3
          clear sa3 ha3
          generalize (upd H8 a3 (HO.lst (cutV (Ns ls) (some ((n : Nat))) none))) = H9 at *
          walk_at "tx"
          refine ⟨a2, a3, _, _, rfl, rfl, ea2, ea3, Nat.le_trans (Nat.add_le_add (by rw [List.length_append]; have := cutV_length (Ns ls) none (some (n : Nat)); rw [WW.Ns_len] at this; show _ + 1 ≤ 9; omega : _ ≤ 9) (by have := cutV_length (Ns ls) (some ((n : Nat))) none; rw [WW.Ns_len] at this; omega : _ ≤ 8)) (by decide), fun a4 ha4 => ?_⟩
          obtain ⟨na4, _⟩ := hT2.free ha4
          have sa4 := same_upd (o := HO.lst (cutV (Ns ls) none (some (n : Nat)) ++ [y] ++ cutV (Ns ls) (some ((n : Nat))) none)) ha4
          have ea4 : (upd H9 a4 (HO.lst (cutV (Ns ls) none (some (n : Nat)) ++ [y] ++ cutV (Ns ls) (some ((n : Nat))) none))) a4 = some (HO.lst (cutV (Ns ls) none (some (n : Nat)) ++ [y] ++ cutV (Ns ls) (some ((n : Nat))) none)) := upd_same
          replace ep := sa4 _ _ ep
          replace ea := sa4 _ _ ea
          replace eo1 := sa4 _ _ eo1
          replace ea2 := sa4 _ _ ea2
          replace ea3 := sa4 _ _ ea3
          replace itm := itm.kx (Same.kx sa4)
          replace k1 := k1.trans (Same.kx sa4)
          replace hT2 := hT2.same sa4
          clear sa4 ha4
          generalize (upd H9 a4 (HO.lst (cutV (Ns ls) none (some (n : Nat)) ++ [y] ++ cutV (Ns ls) (some ((n : Nat))) none))) = H10 at *
          walk_at "tx"
          have row : RowT H10 h (cutV (Ns ls) none (some (n : Nat)) ++ [y] ++ cutV (Ns ls) (some ((n : Nat))) none) := row_bent (cut_ok fun x m => ns_ok ok m) (cut_ok fun x m => ns_ok ok m) itm
          exact k _ _ hT2 k1 (.inr (.inr (.inr (.inr (.inr ⟨_, _, rfl, .inl ⟨na4, ea4⟩, row⟩)))))
end

/-! ### the law -/
open WW (Ns)
open LO (Rch St gcdL)
theorem Tn_shL (p : List Nat) : SeqAt.shaped (.list (OQ.Tn p)) = true := by
  obtain ⟨h1, h2⟩ := OQ.Tn_lay p
  unfold SeqAt.shaped; rw [PyData.canLay0, PyData.depth, h1, h2]; rfl
theorem d_neNn {K : PySem.W.Frag} {H : Hp} {Q : VK} {a b : Addr} {p : List Nat} (ea : H a = some (.lst (Ns p))) (eb : H b = some (.lst (Ns p))) (k : Q (.bl false) H) : rNeD K (.ref a) (.ref b) H Q :=
  ⟨_, _, .lst (SqL.of ea) (OQ.Tn_all p), .lst (SqL.of eb) (OQ.Tn_all p), Tn_shL p, Tn_shL p, by rw [PyData.eqv, OQ.Tn_eqv]; exact k⟩
theorem gcd_rev (ls : List Nat) : gcdL ls.reverse = gcdL ls := by
  unfold gcdL
  exact (List.reverse_perm ls).foldl_eq' (fun x _ y _ z => by rw [Nat.gcd_assoc, Nat.gcd_comm x y, ← Nat.gcd_assoc]) 0
theorem rch_rev {ls : List Nat} {n : Nat} : Rch ls.reverse n ↔ Rch ls n := by
  have go : ∀ {ls ks : List Nat}, (∀ l, l ∈ ls → l ∈ ks) → Rch ls n → Rch ks n := fun f => WW.Rc.mono fun u v ⟨h1, h2, l, m, q⟩ => ⟨h1, h2, l, f l m, q⟩
  exact ⟨go fun l m => List.mem_reverse.mp m, go fun l m => List.mem_reverse.mpr m⟩
theorem GapL.rev {ls gs : List Nat} (g : GapL ls.reverse gs) : GapL ls gs := ⟨g.1, fun m => (g.2 m).trans (by rw [gcd_rev, rch_rev])⟩
theorem Ns_rev (ls : List Nat) : (Ns ls).reverse = Ns ls.reverse := by unfold WW.Ns; rw [List.map_reverse]
theorem Tg.bt {K : PySem.W.Frag} {H : Hp} {h : Addr} {v : V} (t : Tg H h v) : ∃ t b, TyX K H v t ∧ PySem.W.kitOne K t (.type "bool") = some b := by
  rcases t with rfl | ⟨i, rfl⟩ | ⟨c, rfl⟩ | ⟨z, rfl⟩ | ⟨p, kvs, rfl, e⟩ | ⟨p, xs, rfl, ⟨_, e⟩ | e, r⟩
  · exact ⟨_, false, .base .non, kit_ty (by decide +kernel)⟩
  · exact ⟨_, false, .base (.int i), kit_ty (by decide +kernel)⟩
  · exact ⟨_, true, .base (.bl c), kit_ty (by decide +kernel)⟩
  · exact ⟨_, false, .base (.str z), kit_ty (by decide +kernel)⟩
  · exact ⟨_, false, .base (.dK e), kit_ty (by decide +kernel)⟩
  · exact ⟨_, false, .base (.lst e), kit_ty (by decide +kernel)⟩
  · exact ⟨_, false, .base (.tup e), kit_ty (by decide +kernel)⟩
theorem verd_bt {K : PySem.W.Frag} {H : Hp} {h : Addr} {u : V} {kd : Nat} {r : Option Int} {b : Bool} (t : Tg H h u) : ∃ t b', TyX K H (verd kd r b u).2 t ∧ PySem.W.kitOne K t (.type "bool") = some b' := by
  cases r with
  | some i => exact Tg.bt (h := h) (.inr (.inl ⟨i, rfl⟩))
  | none =>
    unfold verd
    dsimp only
    by_cases c : kd = 1 ∧ b = false
    · rw [if_pos c]; exact t.bt
    · rw [if_neg c]; exact Tg.bt (h := h) (.inl rfl)
theorem verd_it {H : Hp} {h : Addr} {u : V} {kd : Nat} {r : Option Int} {b : Bool} (t : Tg H h u) : OQ.SameIt (verd kd r b u).2 := by
  cases r with
  | some i => exact Tg.it (H := H) (h := h) (.inr (.inl ⟨i, rfl⟩))
  | none =>
    unfold verd
    dsimp only
    by_cases c : kd = 1 ∧ b = false
    · rw [if_pos c]; exact t.it
    · rw [if_neg c]; exact Tg.it (H := H) (h := h) (.inl rfl)
def HeadAt (H : Hp) (x : V) : Option (Bool × Bool) → Prop
  | none => x = .str "told"
  | some (a, c) => ∃ q, x = .ref q ∧ H q = some (.lst [.bl a, .bl c])
theorem DueAt.head {H : Hp} {p : Addr} {r : Option (Bool × Bool) × V} (d : DueAt H p r) : ∃ x, H p = some (.tup [x, r.2]) ∧ HeadAt H x r.1 := by
  obtain ⟨x, e, h⟩ := d
  refine ⟨x, e, ?_⟩
  match r, h with
  | (none, _), h => exact h
  | (some (a, c), _), h => exact h
theorem HeadAt.same {H H' : Hp} {x : V} {r : Option (Bool × Bool)} (h : HeadAt H x r) (s : Same H H') : HeadAt H' x r := by
  match r, h with
  | none, h => exact h
  | some (a, c), ⟨q, e, h⟩ => exact ⟨q, e, s _ _ h⟩
theorem HeadAt.eq {K : PySem.W.Frag} {H : Hp} {x y : V} {r : Option (Bool × Bool)} (h : HeadAt H x r) (g : HeadAt H y r) : OQ.EqL K H x y := by
  match r, h, g with
  | none, h, g =>
    obtain rfl : x = .str "told" := h
    obtain rfl : y = .str "told" := g
    exact .inl ⟨rfl, .inl rfl⟩
  | some (a, c), ⟨q1, e1, h1⟩, ⟨q2, e2, h2⟩ =>
    refine .inr ⟨q1, q2, _, e1, e2, SqL.of h1, SqL.of h2, fun v m => ?_⟩
    rcases List.mem_cons.mp m with rfl | m
    · exact .inl rfl
    · rw [List.mem_singleton.mp m]; exact .inl rfl
theorem d_told {K : PySem.W.Frag} {H : Hp} {Q : VK} {x : V} {r : Option (Bool × Bool)} (h : HeadAt H x r) (k : Q (.bl r.isNone) H) : rEqD K x (.str "told") H Q := by
  match r, h, k with
  | none, h, k =>
    obtain rfl : x = .str "told" := h
    exact ⟨_, _, .str _, .str _, by decide +kernel, by decide +kernel, by rw [PyData.eqv]; simpa using k⟩
  | some (a, c), ⟨q, e, hq⟩, k =>
    subst e
    refine ⟨_, _, .lst (SqL.of hq) (.cons (.bl a) (.cons (.bl c) .nil)), .str _, by cases a <;> cases c <;> decide +kernel, by decide +kernel, ?_⟩
    rw [PyData.eqv]
    exact k
    all_goals exact fun _ z => nomatch z
def spLaw (K : PySem.W.Frag) : Sp := fun vs H Q _ => ∃ (a : Addr) (ns : List Int), vs = [.ref a] ∧ SqL K H a (ns.map V.int) ∧ ns.length ≤ 63 ∧ ∀ H', Q (.bl true) H'
section
variable {P : Program} {w : World} {K : PySem.W.Frag} {mg : Str → Option Value} {base : Heap} {H : Hp}
set_option maxRecDepth 20000 in
theorem ok_law (T : Top K mg) : FnOk P w K mg base CX0 12 T.f_law T.fd_law ["script"] (spLaw K) := by
  refine T.F_law.ok sc_law (fun vs H Q E h => ?_) (fun cdv A outer s H vs Q E hr h => ?_)
  · obtain ⟨a, ns, rfl, _⟩ := h; rfl
  · obtain ⟨ad, ns, rfl, hq, hl, k⟩ := h
    refine ⟨_, (pss_cons (ps_set (i := 1) sc_law.nd rfl (Or.inl rfl) (pe_call (ok_law_tape T) (hr.mono (by decide)) (by rfl) T.g_law_tape T.F_law_tape.kp T.b_law_tape .nil pass0 (pa_cons (pv 0) pa_nil)))
 (pss_cons (ps_set (i := 2) sc_law.nd rfl (Or.inl rfl) (pe_call (ok_law_lengths T) (hr.mono (by decide)) (by rfl) T.g_law_lengths T.F_law_lengths.kp T.b_law_lengths .nil pass0 (pa_cons (pv 1) pa_nil)))
 (pss_cons (ps_set (i := 3) sc_law.nd rfl (Or.inl rfl) (pe_call (ok_law_divisor T) (hr.mono (by decide)) (by rfl) T.g_law_divisor T.F_law_divisor.kp T.b_law_divisor .nil pass0 (pa_cons (pv 2) pa_nil)))
 (pss_cons (ps_set (i := 4) sc_law.nd rfl (Or.inl rfl) (pe_lst pa_nil))
 (pss_cons (ps_set (i := 5) sc_law.nd rfl (Or.inl rfl) (pe_slice sl_list (pe_callB cr_sorted (by rfl) T.n_sorted (by decide +kernel) (pa_cons (pv 2) pa_nil)) (po_some (pe_un un_neg pe_int)) po_none))
 (pss_cons (ps_for PassesOwn.never rfl (pi_range3 (by rfl) T.n_range (pa_cons (pv 3) (pa_cons (pe_op op_add (pe_op op_add (pe_callB (cr_sum rfl) (by rfl) T.n_sum (by decide +kernel) (pa_cons (pv 5) pa_nil)) (pv 3)) pe_int) (pa_cons (pv 3) pa_nil)))) (pg_name (i := 6) sc_law.nd rfl (Or.inl rfl))
 (pss_one (ps_if (pt_not (pt_val (pe_call (ok_law_reach T) (hr.mono (by decide)) (by rfl) T.g_law_reach T.F_law_reach.kp T.b_law_reach .nil pass0 (pa_cons (pv 2) (pa_cons (pv 6) pa_nil)))))
 (pss_one (ps_expr (pe_bm PySem.F.plainAttrs_list PySem.F.slot_list_append PySem.F.type_list_append mt_append (pv 4) (pa_cons (pv 6) pa_nil))))
 pss_nil)))
 (pss_cons (ps_set (i := 7) sc_law.nd rfl (Or.inl rfl) (pe_call (ok_lone_gaps T) (hr.mono (by decide)) (by rfl) T.g_lone_gaps T.F_lone_gaps.kp T.b_lone_gaps .nil OQ.passN (pa_cons (pv 2) pa_nil)))
 (pss_cons (ps_if (PW.pt (pw_or (pt_cmpR (op_neD hr.units) (pv 7) (pv 4) (nomark _)) (pw_or1 (pt_not (pt_val (pe_callB call_isi (by rfl) T.n_isinstance (by decide +kernel) (pa_cons (pv 7) (pa_cons (pe_bltn (v := V.ty "list") (by rfl) T.n_list (by decide +kernel) rfl) pa_nil))))))))
 (pss_one (ps_ret pe_bl))
 pss_nil)
 (pss_cons (ps_expr (pe_bm PySem.F.plainAttrs_list PySem.F.slot_list_append PySem.F.type_list_append mt_append (pv 7) (pa_cons pe_int pa_nil)))
 (pss_cons (ps_if (pt_cmpR (op_neD hr.units) (pe_call (ok_lone_gaps T) (hr.mono (by decide)) (by rfl) T.g_lone_gaps T.F_lone_gaps.kp T.b_lone_gaps .nil OQ.passN (pa_cons (pe_callTy (OQ.tupK K) (by rfl) T.n_tuple (by decide +kernel) (pa_cons (pe_revL (pv 2)) pa_nil)) pa_nil)) (pv 4) (nomark _))
 (pss_one (ps_ret pe_bl))
 pss_nil)
 (C8.pss_cut (ps_if (PW.pt (pw_and (pt_cmpR op_gt (pe_callB RD.c_len (by rfl) T.n_len (by decide +kernel) (pa_cons (pv 4) pa_nil)) pe_int (nomark _)) (pw_and1 (pt_cmpR op_ge (pe_ix ix_list (pv 4) (pe_un un_neg pe_int) (fun _ _ => rfl)) (pe_callB (cr_sum rfl) (by rfl) T.n_sum (by decide +kernel) (pa_cons (pv 5) pa_nil)) (nomark _)))))
 (pss_one (ps_ret pe_bl))
 pss_nil)
 (pss_cons (ps_for PassesOwn.never rfl (pi_range1 (by rfl) T.n_range (pa_cons pe_int pa_nil)) (pg_name (i := 8) sc_law.nd rfl (Or.inl rfl))
 (pss_cons (ps_set (i := 9) sc_law.nd rfl (Or.inl rfl) (pe_call (ok_law_bent T) (hr.mono (by decide)) (by rfl) T.g_law_bent T.F_law_bent.kp T.b_law_bent .nil pass0 (pa_cons (pv 1) (pa_cons (pv 2) pa_nil))))
 (pss_cons (ps_set (i := 6) sc_law.nd rfl (Or.inl rfl) (pe_ix ix_list (pe_lst (pa_cons pe_int (pa_cons (pe_op op_pow pe_int pe_int) (pa_cons (pe_op op_add (pe_op op_pow pe_int pe_int) pe_int) (pa_cons pe_int (pa_cons pe_bl (pa_cons (pe_call (ok_law_odd T) (hr.mono (by decide)) (by rfl) T.g_law_odd T.F_law_odd.kp T.b_law_odd .nil pass0 (pa_cons (pv 1) pa_nil)) pa_nil))))))) (pe_call (ok_law_pick T) (hr.mono (by decide)) (by rfl) T.g_law_pick T.F_law_pick.kp T.b_law_pick .nil pass0 (pa_cons (pv 1) (pa_cons pe_int pa_nil))) (fun _ _ => rfl)))
 (pss_one (ps_for PassesOwn.never rfl (pi_range1 (by rfl) T.n_range (pa_cons pe_int pa_nil)) (pg_name (i := 10) sc_law.nd rfl (Or.inl rfl))
 (pss_cons (ps_set (i := 11) sc_law.nd rfl (Or.inl rfl) (pe_call (ok_law_due T) (hr.mono (by decide)) (by rfl) T.g_law_due T.F_law_due.kp T.b_law_due .nil pass0 (pa_cons (pv 10) (pa_cons (pv 9) (pa_cons (pv 6) pa_nil)))))
 (C8.pss_cut (ps_if (PW.pt (pw_and (pt_cmpR op_eq (pv 10) pe_int (nomark _)) (pw_and (pt_cmpR (op_eqD hr.units) (pe_ix ix_tup (pv 11) pe_int (fun _ _ => rfl)) pe_str (nomark _)) (pw_and1 (pt_cmpR op_gt (pv 8) pe_int (nomark _))))))
 (pss_one ps_continue)
 pss_nil)
 (pss_cons (ps_set (i := 12) sc_law.nd rfl (Or.inl rfl) (pe_call (ok_law_asked T) (hr.mono (by decide)) (by rfl) T.g_law_asked T.F_law_asked.kp T.b_law_asked .nil pass0 (pa_cons (pv 10) (pa_cons (pv 9) (pa_cons (pv 6) pa_nil)))))
 (pss_one (ps_if (PW.pt (pw_or (pt_cmpR (OQ.op_neTE hr.units) (pv 12) (pv 11) (nomark _)) (pw_or1 (pt_cmpR op_ne (pe_callB call_isi (by rfl) T.n_isinstance (by decide +kernel) (pa_cons (pe_ix ix_tup (pv 12) pe_int (fun _ _ => rfl)) (pa_cons (pe_bltn (v := V.ty "bool") (by rfl) T.n_bool (by decide +kernel) rfl) pa_nil))) (pe_callB call_isi (by rfl) T.n_isinstance (by decide +kernel) (pa_cons (pe_ix ix_tup (pv 11) pe_int (fun _ _ => rfl)) (pa_cons (pe_bltn (v := V.ty "bool") (by rfl) T.n_bool (by decide +kernel) rfl) pa_nil))) (nomark _)))))
 (pss_one (ps_ret pe_bl))
 pss_nil))))))))))
 (pss_one (ps_ret pe_bl)))))))))))))), ?_⟩
    walk_at "tx"
    refine ⟨ad, ns, rfl, hq, fun h c H1 hT1 s1 _ _ => ?_⟩
    clear hq s1
    walk_at "tx"
    refine ⟨h, c, rfl, hT1, fun p ls H2 hT2 k2 ep np npc ok => ?_⟩
    clear k2 hT1
    walk_at "tx"
    refine ⟨p, ls, rfl, ep, ok, ?_⟩
    walk_at "tx"
    refine ⟨by show 0 ≤ sizeLine; decide, fun q hq => ?_⟩
    obtain ⟨nq, nqc⟩ := hT2.free hq
    have npq := ne_of_none ep hq
    have s3 := same_upd (o := HO.lst (Ns [])) hq
    have eq : upd H2 q (.lst (Ns [])) q = some (.lst (Ns [])) := upd_same
    replace hT2 := hT2.same s3
    replace ep := s3 _ _ ep
    clear s3 hq
    show tSeq _ _ _ _ (upd H2 q (.lst (Ns [])))
    generalize upd H2 q (.lst (Ns [])) = H3 at *
    walk_at "tx"
    refine ⟨p, ls.map (fun j : Nat => (j : Int)), rfl, by rw [← Ns_int]; exact SqL.of ep, by rw [List.length_map]; exact Nat.lt_of_le_of_lt ok.l8 (by decide), fun ms0 a0 pm so ha0 => ?_⟩
    obtain ⟨s, rfl, ps, ss⟩ := nat_ints pm so
    have s4 := same_upd (o := HO.lst ((s.map fun j : Nat => (j : Int)).map V.int)) ha0
    have e0 : upd H3 a0 (.lst ((s.map fun j : Nat => (j : Int)).map V.int)) a0 = some (.lst ((s.map fun j : Nat => (j : Int)).map V.int)) := upd_same
    replace hT2 := hT2.same s4
    replace ep := s4 _ _ ep
    replace eq := s4 _ _ eq
    clear s4 ha0 pm so
    generalize upd H3 a0 (.lst ((s.map fun j : Nat => (j : Int)).map V.int)) = H4 at *
    walk_at "tx"
    refine ⟨a0, _, rfl, SqL.of e0, fun tw htw => ?_⟩
    rw [last_two, List.length_map, ← List.map_drop]
    have t120 := top_le ok ps
    have big := fun L h => LO.top_sum ss ps (L := L) h
    obtain ⟨g1, g60⟩ := gcd_pos ok
    generalize s.drop (s.length - 2) = two at *
    have nqt := ne_of_none eq htw
    have s5 := same_upd (o := HO.lst ((two.map fun j : Nat => (j : Int)).map V.int)) htw
    have e2 : upd H4 tw (.lst ((two.map fun j : Nat => (j : Int)).map V.int)) tw = some (.lst ((two.map fun j : Nat => (j : Int)).map V.int)) := upd_same
    replace hT2 := hT2.same s5
    replace ep := s5 _ _ ep
    replace eq := s5 _ _ eq
    clear s5 htw e0 ss ps
    generalize upd H4 tw (.lst ((two.map fun j : Nat => (j : Int)).map V.int)) = H5 at *
    walk_at "tx"
    unfold iRng3
    walk_at "tx"
    refine ⟨tw, _, rfl, SqL.of e2, ?_⟩
    rw [sum_int]
    obtain ⟨n, rg, n1000, hn⟩ := OQ.rgc_mul (g := gcdL ls) (top := two.sum + gcdL ls + 1) g1 (by omega) (by omega)
    walk_at "tx"
    refine ⟨_, _, _, n, rfl, by push_cast at rg; exact rg, ?_⟩
    refine RD.f_it walk_rangeC (fun i σ' H' => TapeAt H' h c ∧ H' p = some (.lst (Ns ls)) ∧ H' tw = some (.lst ((two.map fun j : Nat => (j : Int)).map V.int)) ∧ ∃ (gs : List Nat) (v6 : Option V), H' q = some (.lst (Ns gs)) ∧ GapK ls (gcdL ls) i gs ∧ σ' = [some (.ref ad), some (.ref h), some (.ref p), some (.int (gcdL ls : Nat)), some (.ref q), some (.ref tw), v6, none, none, none, none, none, none]) ⟨hT2, ep, e2, [], _, eq, ⟨.nil, Nat.le_refl _, fun m => ⟨fun z => (nomatch z), fun ⟨t, ht, _⟩ => by omega⟩⟩, rfl⟩ (fun _ _ _ _ _ => trivial) ?_ ?_
    · clear hT2 ep e2 eq
      rintro i y σ' H' H'' il ⟨hT, ep, e2, gs, v6, eq, gk, rfl⟩ ⟨rfl, rfl⟩
      have e : ((gcdL ls : Nat) : Int) + (i : Nat) * (gcdL ls : Nat) = ((gcdL ls + i * gcdL ls : Nat) : Int) := by push_cast; rfl
      dsimp only
      rw [e]
      have lt := (hn i).mp il
      walk_at "tx"
      refine ⟨p, ls, _, rfl, ep, ok, by omega, fun b H3 s4 eb => ?_⟩
      replace hT := hT.same s4
      replace ep := s4 _ _ ep
      replace eq := s4 _ _ eq
      replace e2 := s4 _ _ e2
      walk_at "tx"
      cases b with
      | true =>
        walk_at "tx"
        exact ⟨hT, ep, e2, gs, _, eq, gk.no (eb.mp rfl), rfl⟩
      | false =>
        walk_at "tx"
        refine ⟨RD.tyL eq, ?_⟩
        walk_at "tx"
        refine RD.d_app eq (by rw [WW.Ns_len]; exact Nat.lt_of_le_of_lt (by have := gk.2.1; omega : _ ≤ 1000) (by decide)) ?_
        rw [WW.Ns_app]
        exact ⟨hT.upd nq nqc, by rw [upd_ne npq]; exact ep, by rw [upd_ne nqt.symm]; exact e2, _, _, upd_same, gk.yes g1 fun z => Bool.noConfusion (eb.mpr z), rfl⟩
    clear hT2 ep e2 eq
    rintro σ' H6 ⟨hT, ep, e2, gs, v6, eq, gk, rfl⟩
    have gl : GapL ls gs := gk.all g1 hn fun m hm d => (big m (by omega)).mpr d
    walk_at "tx"
    refine ⟨.ref p, rfl, .inl ⟨p, ls, rfl, .inl (SqL.of ep), ok, fun D gs2 H7 s7 hD eD gl2 => ?_⟩⟩
    obtain rfl := gl2.uniq gl
    have nDp := ne_of_none ep hD
    have nDq := ne_of_none eq hD
    have nDt := ne_of_none e2 hD
    obtain ⟨nD, nDc⟩ := hT.free hD
    replace hT := hT.same s7
    replace ep := s7 _ _ ep
    replace eq := s7 _ _ eq
    replace e2 := s7 _ _ e2
    clear s7 hD
    walk_at "tx"
    refine d_neNn eD eq ?_
    walk_at "tx"
    refine RD.d_isi (.ty _) (.base (.lst eD)) (kit_ty (by decide +kernel) : PySem.W.kitOne K (.type "list") (.type "list") = some true) ?_
    refine ⟨true, rfl, RD.d_iteNT ?_⟩
    walk_at "tx"
    have glen := gk.2.1
    refine ⟨RD.tyL eD, ?_⟩
    walk_at "tx"
    refine RD.d_app eD (by rw [WW.Ns_len]; exact Nat.lt_of_le_of_lt (by omega : _ ≤ 1000) (by decide)) ?_
    replace hT := hT.upd (o := .lst (Ns gs2 ++ [.int 0])) nD nDc
    replace ep : upd H7 D (.lst (Ns gs2 ++ [.int 0])) p = some (.lst (Ns ls)) := by rw [upd_ne nDp]; exact ep
    replace eq : upd H7 D (.lst (Ns gs2 ++ [.int 0])) q = some (.lst (Ns gs2)) := by rw [upd_ne nDq]; exact eq
    replace e2 : upd H7 D (.lst (Ns gs2 ++ [.int 0])) tw = some (.lst ((two.map fun j : Nat => (j : Int)).map V.int)) := by rw [upd_ne nDt]; exact e2
    clear eD nDp nDq nDt nD nDc
    generalize upd H7 D (.lst (Ns gs2 ++ [.int 0])) = H8 at *
    walk_at "tx"
    refine ⟨p, _, rfl, SqL.of ep, fun tn htn => ?_⟩
    rw [Ns_rev]
    have s9 := same_upd (o := HO.lst (Ns ls.reverse)) htn
    have et : upd H8 tn (.lst (Ns ls.reverse)) tn = some (.lst (Ns ls.reverse)) := upd_same
    replace hT := hT.same s9
    replace ep := s9 _ _ ep
    replace eq := s9 _ _ eq
    replace e2 := s9 _ _ e2
    clear s9 htn
    generalize upd H8 tn (.lst (Ns ls.reverse)) = H9 at *
    walk_at "tx"
    refine ⟨tn, _, rfl, .inl ⟨SqL.of et, fun tu htu => ?_⟩⟩
    have s10 := same_upd (o := HO.tup (Ns ls.reverse)) htu
    have eu : upd H9 tu (.tup (Ns ls.reverse)) tu = some (.tup (Ns ls.reverse)) := upd_same
    replace hT := hT.same s10
    replace ep := s10 _ _ ep
    replace eq := s10 _ _ eq
    replace e2 := s10 _ _ e2
    clear s10 htu et
    generalize upd H9 tu (.tup (Ns ls.reverse)) = H10 at *
    walk_at "tx"
    have okr : Okl ls.reverse := ⟨by rw [List.length_reverse]; exact ok.ne, by rw [List.length_reverse]; exact ok.l8, fun l m => ok.lo l (List.mem_reverse.mp m), fun l m => ok.hi l (List.mem_reverse.mp m)⟩
    refine ⟨.ref tu, rfl, .inl ⟨tu, ls.reverse, rfl, .inr (SqT.of eu), okr, fun D2 gs3 H11 s11 _ eD2 gl3 => ?_⟩⟩
    obtain rfl := gl3.rev.uniq gl
    replace hT := hT.same s11
    replace ep := s11 _ _ ep
    replace eq := s11 _ _ eq
    replace e2 := s11 _ _ e2
    clear s11 eu
    walk_at "tx"
    refine d_neNn eD2 eq ?_
    walk_at "tx"
    refine RD.d_cut (fun σ' H' => σ' = [some (.ref ad), some (.ref h), some (.ref p), some (.int (gcdL ls : Nat)), some (.ref q), some (.ref tw), v6, some (.ref D), none, none, none, none, none] ∧ H' = H11) ?_ ?_
    · walk_at "tx"
      rw [WW.Ns_len]
      refine RD.iteD (fun c1 => ?_) (fun c1 => ?_)
      · obtain ⟨g', z, rfl⟩ : ∃ g' z, gs3 = g' ++ [z] := by
          rcases List.eq_nil_or_concat gs3 with e | ⟨g', z, e⟩
          · rw [e] at c1; simp at c1
          · exact ⟨g', z, by rw [e, List.concat_eq_append]⟩
        walk_at "tx"
        refine RD.d_ixL (SqL.of eq) (v := .int (z : Nat)) (by rw [← WW.Ns_app]; exact L2.atI_last _ _) ?_
        walk_at "tx"
        refine ⟨tw, _, rfl, SqL.of e2, ?_⟩
        rw [sum_int]
        walk_at "tx"
        obtain ⟨_, m2, m3⟩ := (gl.2 z).mp (List.mem_append.mpr (.inr (List.mem_singleton.mpr rfl)))
        refine RD.iteD (fun c2 => absurd ((big _ (by omega)).mpr m2) m3) (fun c2 => ?_)
        walk_at "tx"
        exact ⟨rfl, rfl⟩
      · walk_at "tx"
        exact ⟨rfl, rfl⟩
    clear e2 gl big hn rg eD2 eq
    rintro σ' H' ⟨rfl, rfl⟩
    walk_at "tx"
    refine ⟨4, rfl, by decide, by decide, ?_⟩
    refine RD.f_range (lo := 0) (n := (4 : Int).toNat) (fun i σ' H' => TapeAt H' h c ∧ H' p = some (.lst (Ns ls)) ∧ ∃ v6 v8 v9 v10 v11 v12 : Option V, σ' = [some (.ref ad), some (.ref h), some (.ref p), some (.int (gcdL ls : Nat)), some (.ref q), some (.ref tw), v6, some (.ref D), v8, v9, v10, v11, v12]) ⟨hT, ep, v6, none, none, none, none, none, rfl⟩ ?_ ?_
    · clear hT ep v6
      rintro tn σ' H0 hi ⟨hT, ep, v6, v8, v9, v10, v11, v12, rfl⟩
      rw [Int.zero_add]
      walk_at "tx"
      refine ⟨h, c, p, ls, rfl, hT, ep, np, ok, fun bt H2 hT2 k2 tb => ?_⟩
      replace ep := k2 _ _ np ep
      clear hT k2
      walk_at "tx"
      refine ⟨h, c, rfl, hT2, fun od H3 hT3 k3 to => ?_⟩
      replace ep := k3 _ _ np ep
      replace tb := tb.kx hT2 k3
      clear hT2 k3
      walk_at "tx"
      refine ⟨by show 6 ≤ sizeLine; decide, fun w hw => ?_⟩
      obtain ⟨nw, _⟩ := hT3.free hw
      have s4 := same_upd (o := HO.lst [V.int 1, V.int (10 ^ Int.toNat 30), V.int (10 ^ Int.toNat 30 + 1), V.int 0, V.bl true, od]) hw
      have ew : upd H3 w (.lst [V.int 1, V.int (10 ^ Int.toNat 30), V.int (10 ^ Int.toNat 30 + 1), V.int 0, V.bl true, od]) w = some (.lst [V.int 1, V.int (10 ^ Int.toNat 30), V.int (10 ^ Int.toNat 30 + 1), V.int 0, V.bl true, od]) := upd_same
      replace ep := s4 _ _ ep
      replace tb := tb.kx hT3 (Same.kx s4)
      replace to := to.kx hT3 (Same.kx s4)
      replace hT3 := hT3.same s4
      clear s4 hw
      generalize upd H3 w (.lst [V.int 1, V.int (10 ^ Int.toNat 30), V.int (10 ^ Int.toNat 30 + 1), V.int 0, V.bl true, od]) = H4 at *
      have all : ∀ x ∈ [V.int 1, V.int (10 ^ Int.toNat 30), V.int (10 ^ Int.toNat 30 + 1), V.int 0, V.bl true, od], Tg H4 h x := by
        refine List.forall_mem_cons.mpr ⟨.inr (.inl ⟨_, rfl⟩), ?_⟩
        refine List.forall_mem_cons.mpr ⟨.inr (.inl ⟨_, rfl⟩), ?_⟩
        refine List.forall_mem_cons.mpr ⟨.inr (.inl ⟨_, rfl⟩), ?_⟩
        refine List.forall_mem_cons.mpr ⟨.inr (.inl ⟨_, rfl⟩), ?_⟩
        refine List.forall_mem_cons.mpr ⟨.inr (.inr (.inl ⟨_, rfl⟩)), ?_⟩
        refine List.forall_mem_cons.mpr ⟨to, ?_⟩
        exact fun _ m => nomatch m
      have lx : [V.int 1, V.int (10 ^ Int.toNat 30), V.int (10 ^ Int.toNat 30 + 1), V.int 0, V.bl true, od].length = 6 := rfl
      generalize [V.int 1, V.int (10 ^ Int.toNat 30), V.int (10 ^ Int.toNat 30 + 1), V.int 0, V.bl true, od] = xs at *
      walk_at "tx"
      refine ⟨h, c, 6, rfl, hT3, by decide, log2_lt (by decide), fun r H5 r0 r6 hT5 b5 => ?_⟩
      obtain ⟨r, rfl⟩ := Int.eq_ofNat_of_zero_le r0
      have rl : r < xs.length := by omega
      replace ep := b5.kp _ _ np ep
      replace ew := b5.kp _ _ nw ew
      replace tb := tb.kx hT3 b5.kp
      have tu := (all _ (List.getElem_mem rl)).kx hT3 b5.kp
      refine RD.d_ixL (SqL.of ew) (v := xs[r]) (atI_nat (List.getElem?_eq_getElem rl)) ?_
      generalize xs[r] = u at *
      clear b5 hT3 all ew to
      walk_at "tx"
      refine ⟨2, rfl, by decide, by decide, ?_⟩
      refine RD.f_range (lo := 0) (n := (2 : Int).toNat) (fun i σ' H' => TapeAt H' h c ∧ H' p = some (.lst (Ns ls)) ∧ Tg H' h bt ∧ Tg H' h u ∧ ∃ v10 v11 v12 : Option V, σ' = [some (.ref ad), some (.ref h), some (.ref p), some (.int (gcdL ls : Nat)), some (.ref q), some (.ref tw), some u, some (.ref D), some (.int (tn : Nat)), some bt, v10, v11, v12]) ⟨hT5, ep, tb, tu, _, _, _, rfl⟩ ?_ ?_
      · clear hT5 ep tb tu v10 v11 v12
        rintro kd σ' H6 hkd ⟨hT, ep, tb, tu, v10, v11, v12, rfl⟩
        have k1 : kd ≤ 1 := by
          have : kd < 2 := hkd
          omega
        rw [Int.zero_add]
        obtain ⟨vr, vd⟩ := tb.vd (K := K)
        have nb := tu.num (K := K) (m := 10 ^ 30)
        walk_at "tx"
        refine ⟨kd, bt, u, vr, _, rfl, k1, vd, nb, fun pd H7 s7 d7 => ?_⟩
        obtain ⟨x, ed, hx⟩ := d7.head
        replace ep := s7 _ _ ep
        replace vd := vd.same s7
        replace nb := nb.same s7
        replace tb := tb.kx hT (Same.kx s7)
        replace tu := tu.kx hT (Same.kx s7)
        replace hT := hT.same s7
        clear s7 d7
        walk_at "tx"
        refine RD.d_cut (fun σ' H' => σ' = [some (.ref ad), some (.ref h), some (.ref p), some (.int (gcdL ls : Nat)), some (.ref q), some (.ref tw), some u, some (.ref D), some (.int (tn : Nat)), some bt, some (.int (kd : Nat)), some (.ref pd), v12] ∧ H' = H7) ?_ ?_
        · walk_at "tx"
          refine RD.iteD (fun c1 => ?_) (fun c1 => ?_)
          · walk_at "tx"
            refine d_told hx ?_
            cases (verd kd vr (numB (10 ^ 30) u) u).1 with
            | some ac =>
              refine ⟨false, rfl, ?_⟩
              walk_at "tx"
              exact ⟨rfl, rfl⟩
            | none =>
              refine ⟨true, rfl, ?_⟩
              walk_at "tx"
              refine RD.iteD (fun c2 => ?_) (fun c2 => ?_)
              · walk_at "tx"
                exact ⟨hT, ep, tb, tu, _, _, _, rfl⟩
              · walk_at "tx"
                exact ⟨rfl, rfl⟩
          · walk_at "tx"
            exact ⟨rfl, rfl⟩
        rintro σ' H' ⟨rfl, rfl⟩
        walk_at "tx"
        refine ⟨kd, bt, u, vr, _, rfl, k1, vd, nb, fun pf H8 s8 d8 => ?_⟩
        obtain ⟨y, ef, hy⟩ := d8.head
        replace ed := s8 _ _ ed
        replace hx := hx.same s8
        replace ep := s8 _ _ ep
        replace tb := tb.kx hT (Same.kx s8)
        replace tu := tu.kx hT (Same.kx s8)
        replace hT := hT.same s8
        clear s8 d8
        walk_at "tx"
        refine ⟨pf, pd, _, _, _, _, rfl, rfl, SqT.of ef, SqT.of ed, hy.eq hx, .inl ⟨rfl, verd_it tu⟩, ?_⟩
        walk_at "tx"
        obtain ⟨t, b', ty, kt⟩ := verd_bt (K := K) (kd := kd) (r := vr) (b := numB (10 ^ 30) u) tu
        refine RD.d_isi (.ty _) ty kt ?_
        walk_at "tx"
        refine RD.d_isi (.ty _) ty kt ?_
        walk_at "tx"
        refine ⟨rfl, ?_⟩
        rw [decide_eq_true rfl]
        walk_at "tx"
        exact ⟨hT, ep, tb, tu, _, _, _, rfl⟩
      · rintro σ' H6 ⟨hT, ep, tb, tu, v10, v11, v12, rfl⟩
        exact ⟨hT, ep, _, _, _, _, _, _, rfl⟩
    · rintro σ' H6 _
      walk_at "tx"
      exact k _
end

theorem nf_self {K : PySem.W.Frag} {C : Addr} : PySem.W.notFirst K C (.ref C) = true := by unfold PySem.W.notFirst; simp
theorem facts {P : Program} {w : World} {K : PySem.W.Frag} {h : Heap} {mg : Str → Option Value} {f : Addr} (X : K.In h) (G : h.Ns mainGlobals mg) (hfa : mg ("law" : Str) = some (.ref f)) (c : He.SaysD faH fnH K) (x : exH K = true) :
    ∃ fd : FuncData, (∀ (s : Shared) (v : Value), BindsTo s fd ⟨[v], []⟩ [("script", v)]) ∧ ∀ base : Heap, K.In base → base.Ns mainGlobals mg → FnOk P w K mg base CX0 12 f fd ["script"] (spLaw K) := by
  obtain ⟨fdWayError__init, DWayError__init⟩ := c.def_ 0 (d := dH_WayError__init) rfl
  have FWayError__init : Fun K _ _ s_WayError__init _ fdWayError__init := OQ.fun_of DWayError__init
  have bWayError__init := FWayError__init.binds (ps := ["self", "value"]) fun _ _ _ _ _ _ us hl => match us, hl with | [_, _], _ => rfl
  obtain ⟨fdis_integer, Dis_integer⟩ := c.def_ 1 (d := dH_is_integer) rfl
  have Fis_integer : Fun K _ _ s_is_integer _ fdis_integer := OQ.fun_of Dis_integer
  have bis_integer := Fis_integer.binds (ps := ["thing"]) fun _ _ _ _ _ _ us hl => match us, hl with | [_], _ => rfl
  obtain ⟨fdis_row, Dis_row⟩ := c.def_ 2 (d := dH_is_row) rfl
  have Fis_row : Fun K _ _ s_is_row _ fdis_row := OQ.fun_of Dis_row
  have bis_row := Fis_row.binds (ps := ["thing"]) fun _ _ _ _ _ _ us hl => match us, hl with | [_], _ => rfl
  obtain ⟨fdlinks_through, Dlinks_through⟩ := c.def_ 3 (d := dH_links_through) rfl
  have Flinks_through : Fun K _ _ s_links_through _ fdlinks_through := OQ.fun_of Dlinks_through
  have blinks_through := Flinks_through.binds (ps := ["pieces", "word"]) fun _ _ _ _ _ _ us hl => match us, hl with | [_, _], _ => rfl
  obtain ⟨fdleads_through, Dleads_through⟩ := c.def_ 4 (d := dH_leads_through) rfl
  have Fleads_through : Fun K _ _ s_leads_through _ fdleads_through := OQ.fun_of Dleads_through
  have bleads_through := Fleads_through.binds (ps := ["pieces", "word"]) fun _ _ _ _ _ _ us hl => match us, hl with | [_, _], _ => rfl
  obtain ⟨fdsteps_to, Dsteps_to⟩ := c.def_ 5 (d := dH_steps_to) rfl
  have Fsteps_to : Fun K _ _ s_steps_to _ fdsteps_to := OQ.fun_of Dsteps_to
  have bsteps_to := Fsteps_to.binds (ps := ["links", "goal"]) fun _ _ _ _ _ _ us hl => match us, hl with | [_, _], _ => rfl
  obtain ⟨fdlone_told, Dlone_told⟩ := c.def_ 6 (d := dH_lone_told) rfl
  have Flone_told : Fun K _ _ s_lone_told _ fdlone_told := OQ.fun_of Dlone_told
  have blone_told := Flone_told.binds (ps := ["lengths", "last"]) fun _ _ _ _ _ _ us hl => match us, hl with | [_, _], _ => rfl
  obtain ⟨fdlone_gaps, Dlone_gaps⟩ := c.def_ 7 (d := dH_lone_gaps) rfl
  have Flone_gaps : Fun K _ _ s_lone_gaps _ fdlone_gaps := OQ.fun_of Dlone_gaps
  have blone_gaps := Flone_gaps.binds (ps := ["lengths"]) fun _ _ _ _ _ _ us hl => match us, hl with | [_], _ => rfl
  obtain ⟨fdleads_to, Dleads_to⟩ := c.def_ 8 (d := dH_leads_to) rfl
  have Fleads_to : Fun K _ _ s_leads_to _ fdleads_to := OQ.fun_of Dleads_to
  have bleads_to := Fleads_to.binds (ps := ["lengths", "last"]) fun _ _ _ _ _ _ us hl => match us, hl with | [_, _], _ => rfl
  obtain ⟨fdshared_divisor, Dshared_divisor⟩ := c.def_ 9 (d := dH_shared_divisor) rfl
  have Fshared_divisor : Fun K _ _ s_shared_divisor _ fdshared_divisor := OQ.fun_of Dshared_divisor
  have bshared_divisor := Fshared_divisor.binds (ps := ["lengths"]) fun _ _ _ _ _ _ us hl => match us, hl with | [_], _ => rfl
  obtain ⟨fdall_told_from, Dall_told_from⟩ := c.def_ 10 (d := dH_all_told_from) rfl
  have Fall_told_from : Fun K _ _ s_all_told_from _ fdall_told_from := OQ.fun_of Dall_told_from
  have ball_told_from := Fall_told_from.binds (ps := ["lengths"]) fun _ _ _ _ _ _ us hl => match us, hl with | [_], _ => rfl
  obtain ⟨fdcheck_lengths, Dcheck_lengths⟩ := c.def_ 11 (d := dH_check_lengths) rfl
  have Fcheck_lengths : Fun K _ _ s_check_lengths _ fdcheck_lengths := OQ.fun_of Dcheck_lengths
  have bcheck_lengths := Fcheck_lengths.binds (ps := ["lengths"]) fun _ _ _ _ _ _ us hl => match us, hl with | [_], _ => rfl
  obtain ⟨fdlaw_tape, Dlaw_tape⟩ := c.def_ 12 (d := dH_law_tape) rfl
  have Flaw_tape : Fun K _ _ s_law_tape _ fdlaw_tape := OQ.fun_of Dlaw_tape
  have blaw_tape := Flaw_tape.binds (ps := ["script"]) fun _ _ _ _ _ _ us hl => match us, hl with | [_], _ => rfl
  obtain ⟨fdlaw_pick, Dlaw_pick⟩ := c.def_ 13 (d := dH_law_pick) rfl
  have Flaw_pick : Fun K _ _ s_law_pick _ fdlaw_pick := OQ.fun_of Dlaw_pick
  have blaw_pick := Flaw_pick.binds (ps := ["tape", "size"]) fun _ _ _ _ _ _ us hl => match us, hl with | [_, _], _ => rfl
  obtain ⟨fdlaw_odd, Dlaw_odd⟩ := c.def_ 14 (d := dH_law_odd) rfl
  have Flaw_odd : Fun K _ _ s_law_odd _ fdlaw_odd := OQ.fun_of Dlaw_odd
  have blaw_odd := Flaw_odd.binds (ps := ["tape"]) fun _ _ _ _ _ _ us hl => match us, hl with | [_], _ => rfl
  obtain ⟨fdlaw_is_word, Dlaw_is_word⟩ := c.def_ 15 (d := dH_law_is_word) rfl
  have Flaw_is_word : Fun K _ _ s_law_is_word _ fdlaw_is_word := OQ.fun_of Dlaw_is_word
  have blaw_is_word := Flaw_is_word.binds (ps := ["thing", "most"]) fun _ _ _ _ _ _ us hl => match us, hl with | [_, _], _ => rfl
  obtain ⟨fdlaw_common, Dlaw_common⟩ := c.def_ 16 (d := dH_law_common) rfl
  have Flaw_common : Fun K _ _ s_law_common _ fdlaw_common := OQ.fun_of Dlaw_common
  have blaw_common := Flaw_common.binds (ps := ["one", "other"]) fun _ _ _ _ _ _ us hl => match us, hl with | [_, _], _ => rfl
  obtain ⟨fdlaw_divisor, Dlaw_divisor⟩ := c.def_ 17 (d := dH_law_divisor) rfl
  have Flaw_divisor : Fun K _ _ s_law_divisor _ fdlaw_divisor := OQ.fun_of Dlaw_divisor
  have blaw_divisor := Flaw_divisor.binds (ps := ["lengths"]) fun _ _ _ _ _ _ us hl => match us, hl with | [_], _ => rfl
  obtain ⟨fdlaw_reach, Dlaw_reach⟩ := c.def_ 18 (d := dH_law_reach) rfl
  have Flaw_reach : Fun K _ _ s_law_reach _ fdlaw_reach := OQ.fun_of Dlaw_reach
  have blaw_reach := Flaw_reach.binds (ps := ["lengths", "last"]) fun _ _ _ _ _ _ us hl => match us, hl with | [_, _], _ => rfl
  obtain ⟨fdlaw_lengths, Dlaw_lengths⟩ := c.def_ 19 (d := dH_law_lengths) rfl
  have Flaw_lengths : Fun K _ _ s_law_lengths _ fdlaw_lengths := OQ.fun_of Dlaw_lengths
  have blaw_lengths := Flaw_lengths.binds (ps := ["tape"]) fun _ _ _ _ _ _ us hl => match us, hl with | [_], _ => rfl
  obtain ⟨fdlaw_asked, Dlaw_asked⟩ := c.def_ 20 (d := dH_law_asked) rfl
  have Flaw_asked : Fun K _ _ s_law_asked _ fdlaw_asked := OQ.fun_of Dlaw_asked
  have blaw_asked := Flaw_asked.binds (ps := ["kind", "lengths", "last"]) fun _ _ _ _ _ _ us hl => match us, hl with | [_, _, _], _ => rfl
  obtain ⟨fdlaw_is_number, Dlaw_is_number⟩ := c.def_ 21 (d := dH_law_is_number) rfl
  have Flaw_is_number : Fun K _ _ s_law_is_number _ fdlaw_is_number := OQ.fun_of Dlaw_is_number
  have blaw_is_number := Flaw_is_number.binds (ps := ["thing", "most"]) fun _ _ _ _ _ _ us hl => match us, hl with | [_, _], _ => rfl
  obtain ⟨fdlaw_due, Dlaw_due⟩ := c.def_ 22 (d := dH_law_due) rfl
  have Flaw_due : Fun K _ _ s_law_due _ fdlaw_due := OQ.fun_of Dlaw_due
  have blaw_due := Flaw_due.binds (ps := ["kind", "lengths", "last"]) fun _ _ _ _ _ _ us hl => match us, hl with | [_, _, _], _ => rfl
  obtain ⟨fdlaw_bent, Dlaw_bent⟩ := c.def_ 23 (d := dH_law_bent) rfl
  have Flaw_bent : Fun K _ _ s_law_bent _ fdlaw_bent := OQ.fun_of Dlaw_bent
  have blaw_bent := Flaw_bent.binds (ps := ["tape", "lengths"]) fun _ _ _ _ _ _ us hl => match us, hl with | [_, _], _ => rfl
  obtain ⟨fdlaw, Dlaw⟩ := c.def_ 24 (d := dH_law) rfl
  have Flaw : Fun K _ _ s_law _ fdlaw := OQ.fun_of Dlaw
  have blaw := Flaw.binds (ps := ["script"]) fun _ _ _ _ _ _ us hl => match us, hl with | [_], _ => rfl
  have gWayError : mg "WayError" = some (.ref (He.ga K "WayError")) := He.glo_ok X G (c.fact 0 rfl)
  have gBadTimes : mg "BadTimes" = some (.ref (He.ga K "BadTimes")) := He.glo_ok X G (c.fact 1 rfl)
  have gBadLengths : mg "BadLengths" = some (.ref (He.ga K "BadLengths")) := He.glo_ok X G (c.fact 2 rfl)
  have gis_integer : mg "is_integer" = some (.ref (He.ga K "is_integer")) := He.glo_ok X G (c.fact 3 rfl)
  have gis_row : mg "is_row" = some (.ref (He.ga K "is_row")) := He.glo_ok X G (c.fact 4 rfl)
  have glinks_through : mg "links_through" = some (.ref (He.ga K "links_through")) := He.glo_ok X G (c.fact 5 rfl)
  have gleads_through : mg "leads_through" = some (.ref (He.ga K "leads_through")) := He.glo_ok X G (c.fact 6 rfl)
  have gsteps_to : mg "steps_to" = some (.ref (He.ga K "steps_to")) := He.glo_ok X G (c.fact 7 rfl)
  have glone_told : mg "lone_told" = some (.ref (He.ga K "lone_told")) := He.glo_ok X G (c.fact 8 rfl)
  have glone_gaps : mg "lone_gaps" = some (.ref (He.ga K "lone_gaps")) := He.glo_ok X G (c.fact 9 rfl)
  have gleads_to : mg "leads_to" = some (.ref (He.ga K "leads_to")) := He.glo_ok X G (c.fact 10 rfl)
  have gshared_divisor : mg "shared_divisor" = some (.ref (He.ga K "shared_divisor")) := He.glo_ok X G (c.fact 11 rfl)
  have gall_told_from : mg "all_told_from" = some (.ref (He.ga K "all_told_from")) := He.glo_ok X G (c.fact 12 rfl)
  have gcheck_lengths : mg "check_lengths" = some (.ref (He.ga K "check_lengths")) := He.glo_ok X G (c.fact 13 rfl)
  have g_law_tape : mg "_law_tape" = some (.ref (He.ga K "_law_tape")) := He.glo_ok X G (c.fact 14 rfl)
  have g_law_pick : mg "_law_pick" = some (.ref (He.ga K "_law_pick")) := He.glo_ok X G (c.fact 15 rfl)
  have g_law_odd : mg "_law_odd" = some (.ref (He.ga K "_law_odd")) := He.glo_ok X G (c.fact 16 rfl)
  have g_law_is_word : mg "_law_is_word" = some (.ref (He.ga K "_law_is_word")) := He.glo_ok X G (c.fact 17 rfl)
  have g_law_common : mg "_law_common" = some (.ref (He.ga K "_law_common")) := He.glo_ok X G (c.fact 18 rfl)
  have g_law_divisor : mg "_law_divisor" = some (.ref (He.ga K "_law_divisor")) := He.glo_ok X G (c.fact 19 rfl)
  have g_law_reach : mg "_law_reach" = some (.ref (He.ga K "_law_reach")) := He.glo_ok X G (c.fact 20 rfl)
  have g_law_lengths : mg "_law_lengths" = some (.ref (He.ga K "_law_lengths")) := He.glo_ok X G (c.fact 21 rfl)
  have g_law_asked : mg "_law_asked" = some (.ref (He.ga K "_law_asked")) := He.glo_ok X G (c.fact 22 rfl)
  have g_law_is_number : mg "_law_is_number" = some (.ref (He.ga K "_law_is_number")) := He.glo_ok X G (c.fact 23 rfl)
  have g_law_due : mg "_law_due" = some (.ref (He.ga K "_law_due")) := He.glo_ok X G (c.fact 24 rfl)
  have g_law_bent : mg "_law_bent" = some (.ref (He.ga K "_law_bent")) := He.glo_ok X G (c.fact 25 rfl)
  have glaw : mg "law" = some (.ref (He.ga K "law")) := He.glo_ok X G (c.fact 26 rfl)
  have zbool : mg "bool" = none := He.free_ok X G (c.fact 27 rfl)
  have zenumerate : mg "enumerate" = none := He.free_ok X G (c.fact 28 rfl)
  have zint : mg "int" = none := He.free_ok X G (c.fact 29 rfl)
  have zisinstance : mg "isinstance" = none := He.free_ok X G (c.fact 30 rfl)
  have zlen : mg "len" = none := He.free_ok X G (c.fact 31 rfl)
  have zlist : mg "list" = none := He.free_ok X G (c.fact 32 rfl)
  have zrange : mg "range" = none := He.free_ok X G (c.fact 33 rfl)
  have zsorted : mg "sorted" = none := He.free_ok X G (c.fact 34 rfl)
  have zstr : mg "str" = none := He.free_ok X G (c.fact 35 rfl)
  have zsum : mg "sum" = none := He.free_ok X G (c.fact 36 rfl)
  have ztuple : mg "tuple" = none := He.free_ok X G (c.fact 37 rfl)
  obtain ⟨tkMOST_LENGTHS, gMOST_LENGTHS⟩ := He.int_ok X G (c.fact 38 (f := .int "MOST_LENGTHS" 8) rfl)
  obtain ⟨tkMOST_LENGTH, gMOST_LENGTH⟩ := He.int_ok X G (c.fact 39 (f := .int "MOST_LENGTH" 60) rfl)
  obtain ⟨tkMOST_LAST, gMOST_LAST⟩ := He.int_ok X G (c.fact 40 (f := .int "MOST_LAST" 1000000000000000000000000000000) rfl)
  have r0 := x
  obtain ⟨qhnO, r1⟩ := OQ.two r0
  obtain ⟨qhtO, r2⟩ := OQ.two r1
  obtain ⟨qtI, r3⟩ := OQ.two r2
  obtain ⟨qicWE, r4⟩ := OQ.two r3
  obtain ⟨qtyWE, r5⟩ := OQ.two r4
  obtain ⟨qexWE, r6⟩ := OQ.two r5
  obtain ⟨qeBadTimes, r7⟩ := OQ.two r6
  obtain ⟨qeBadLengths, r8⟩ := OQ.two r7
  obtain ⟨qgcd, r9⟩ := OQ.two r8
  obtain ⟨qkLT, r10⟩ := OQ.two r9
  have qkTL := r10
  have hnO := OQ.isB_ok qhnO
  have htO := of_decide_eq_true qhtO
  have eBadTimes := OQ.erB_ok hnO htO qeBadTimes
  have eBadLengths := OQ.erB_ok hnO htO qeBadLengths
  have e := hfa.symm.trans glaw
  cases e
  let T : Top K mg := { f_WayError__init := _, fd_WayError__init := fdWayError__init, F_WayError__init := FWayError__init, b_WayError__init := bWayError__init, f_is_integer := _, fd_is_integer := fdis_integer, F_is_integer := Fis_integer, b_is_integer := bis_integer, g_is_integer := gis_integer, f_is_row := _, fd_is_row := fdis_row, F_is_row := Fis_row, b_is_row := bis_row, g_is_row := gis_row, f_links_through := _, fd_links_through := fdlinks_through, F_links_through := Flinks_through, b_links_through := blinks_through, g_links_through := glinks_through, f_leads_through := _, fd_leads_through := fdleads_through, F_leads_through := Fleads_through, b_leads_through := bleads_through, g_leads_through := gleads_through, f_steps_to := _, fd_steps_to := fdsteps_to, F_steps_to := Fsteps_to, b_steps_to := bsteps_to, g_steps_to := gsteps_to, f_lone_told := _, fd_lone_told := fdlone_told, F_lone_told := Flone_told, b_lone_told := blone_told, g_lone_told := glone_told, f_lone_gaps := _, fd_lone_gaps := fdlone_gaps, F_lone_gaps := Flone_gaps, b_lone_gaps := blone_gaps, g_lone_gaps := glone_gaps, f_leads_to := _, fd_leads_to := fdleads_to, F_leads_to := Fleads_to, b_leads_to := bleads_to, g_leads_to := gleads_to, f_shared_divisor := _, fd_shared_divisor := fdshared_divisor, F_shared_divisor := Fshared_divisor, b_shared_divisor := bshared_divisor, g_shared_divisor := gshared_divisor, f_all_told_from := _, fd_all_told_from := fdall_told_from, F_all_told_from := Fall_told_from, b_all_told_from := ball_told_from, g_all_told_from := gall_told_from, f_check_lengths := _, fd_check_lengths := fdcheck_lengths, F_check_lengths := Fcheck_lengths, b_check_lengths := bcheck_lengths, g_check_lengths := gcheck_lengths, f_law_tape := _, fd_law_tape := fdlaw_tape, F_law_tape := Flaw_tape, b_law_tape := blaw_tape, g_law_tape := g_law_tape, f_law_pick := _, fd_law_pick := fdlaw_pick, F_law_pick := Flaw_pick, b_law_pick := blaw_pick, g_law_pick := g_law_pick, f_law_odd := _, fd_law_odd := fdlaw_odd, F_law_odd := Flaw_odd, b_law_odd := blaw_odd, g_law_odd := g_law_odd, f_law_is_word := _, fd_law_is_word := fdlaw_is_word, F_law_is_word := Flaw_is_word, b_law_is_word := blaw_is_word, g_law_is_word := g_law_is_word, f_law_common := _, fd_law_common := fdlaw_common, F_law_common := Flaw_common, b_law_common := blaw_common, g_law_common := g_law_common, f_law_divisor := _, fd_law_divisor := fdlaw_divisor, F_law_divisor := Flaw_divisor, b_law_divisor := blaw_divisor, g_law_divisor := g_law_divisor, f_law_reach := _, fd_law_reach := fdlaw_reach, F_law_reach := Flaw_reach, b_law_reach := blaw_reach, g_law_reach := g_law_reach, f_law_lengths := _, fd_law_lengths := fdlaw_lengths, F_law_lengths := Flaw_lengths, b_law_lengths := blaw_lengths, g_law_lengths := g_law_lengths, f_law_asked := _, fd_law_asked := fdlaw_asked, F_law_asked := Flaw_asked, b_law_asked := blaw_asked, g_law_asked := g_law_asked, f_law_is_number := _, fd_law_is_number := fdlaw_is_number, F_law_is_number := Flaw_is_number, b_law_is_number := blaw_is_number, g_law_is_number := g_law_is_number, f_law_due := _, fd_law_due := fdlaw_due, F_law_due := Flaw_due, b_law_due := blaw_due, g_law_due := g_law_due, f_law_bent := _, fd_law_bent := fdlaw_bent, F_law_bent := Flaw_bent, b_law_bent := blaw_bent, g_law_bent := g_law_bent, f_law := _, fd_law := fdlaw, F_law := Flaw, b_law := blaw, g_law := glaw, n_bool := zbool, n_enumerate := zenumerate, n_int := zint, n_isinstance := zisinstance, n_len := zlen, n_list := zlist, n_range := zrange, n_sorted := zsorted, n_str := zstr, n_sum := zsum, n_tuple := ztuple, hnO := hnO, htO := htO, k_MOST_LENGTHS := tkMOST_LENGTHS, g_MOST_LENGTHS := gMOST_LENGTHS, k_MOST_LENGTH := tkMOST_LENGTH, g_MOST_LENGTH := gMOST_LENGTH, k_MOST_LAST := tkMOST_LAST, g_MOST_LAST := gMOST_LAST, kE_BadTimes := kit_selfR, kE_BadLengths := kit_selfR, tI := of_decide_eq_true qtI, g_gcd := PySem.W.mg_of X G (OQ.isB_ok qgcd), kLT := of_decide_eq_true qkLT, kTL := of_decide_eq_true qkTL, C_WayError := _, g_WayError := gWayError, C_BadTimes := _, g_BadTimes := gBadTimes, oex_BadTimes := eBadTimes.oex, i_BadTimes := eBadTimes.ini, v_BadTimes := eBadTimes.va, xf_BadTimes := eBadTimes.xf, exI_BadTimes := eBadTimes.exi, exm_BadTimes := OQ.exm_is eBadTimes.oex.exC eBadTimes.cls eBadTimes.oex.tyC (OQ.mro_has eBadTimes (by simp)), C_BadLengths := _, g_BadLengths := gBadLengths, oex_BadLengths := eBadLengths.oex, i_BadLengths := eBadLengths.ini, v_BadLengths := eBadLengths.va, xf_BadLengths := eBadLengths.xf, exI_BadLengths := eBadLengths.exi, exm_BadLengths := OQ.exm_is eBadLengths.oex.exC eBadLengths.cls eBadLengths.oex.tyC (OQ.mro_has eBadLengths (by simp)), exW_BadTimes := OQ.exm_eW eBadTimes (of_decide_eq_true qexWE) qicWE (of_decide_eq_true qtyWE), exW_BadLengths := OQ.exm_eW eBadLengths (of_decide_eq_true qexWE) qicWE (of_decide_eq_true qtyWE) }
  exact ⟨fdlaw, fun s v => FunD.bindsA (ps := ["script"]) Dlaw (fun _ _ _ _ _ _ us hl => match us, hl with | [_], _ => rfl) s [v] rfl, fun base _ _ => ok_law T⟩

end Toy
open PySem PySem.W PySem.Calls PyProof.Rows
set_option maxRecDepth 100000 in
set_option maxHeartbeats 0 in
theorem PySem.Challenge.cw_watchedways_k86_lone_gaps_and_refused_holds : PySem.Challenge.rw_watchedways_k86_lone_gaps_and_refused.Holds := by
  w_on; o_law
  refine HandSHeadRun.head_imp (r := OpenLaw.row PySem.Challenge.rw_watchedways_k86_lone_gaps_and_refused) (q := view (OpenLaw.row PySem.Challenge.rw_watchedways_k86_lone_gaps_and_refused).prog [0, 35]) (H := Toy.hk) (ob := Toy.ob) (M := 30000) (loose := Toy.looseH) (d := HandSHeadRun.topDef (OpenLaw.row PySem.Challenge.rw_watchedways_k86_lone_gaps_and_refused).prog 35) (kwd := []) (OQ.obB_eq 5 Toy.faH Toy.fnH Toy.exH)
    Toy.run (by kernel_rfl) (by kernel_rfl) (by kernel_rfl) (by rfl) (by first | assumption | decide +kernel) (by decide +kernel) ⟨rfl, rfl, rfl, rfl, rfl, by decide +kernel⟩ ?hw ?hc
  case hw => w_witness2
  case hc =>
    refine L2.walk_ofE (l := PySem.Challenge.rw_watchedways_k86_lone_gaps_and_refused) (n := 63) (k := 12) (x := "script") (CX := L2.CX0) rfl (by decide) (by kernel_rfl) ⟨rfl, by decide, by decide⟩ ?F (fun _ _ _ _ z => z)
    intro w mg fa h Y G hmg0
    obtain ⟨K, KX, c, x⟩ := Y
    have hmg : mg ("law" : PySem.Str) = some (.ref fa) := by
      have e : (HandSHeadRun.topDef (OpenLaw.row PySem.Challenge.rw_watchedways_k86_lone_gaps_and_refused).prog 35).name = ("law" : PySem.Str) := by kernel_rfl
      rw [← e]
      exact hmg0
    obtain ⟨fd, hb, hF⟩ := Toy.facts (P := (PySem.Challenge.rw_watchedways_k86_lone_gaps_and_refused).prog) (w := w) KX G hmg c x
    exact ⟨K, fd, Toy.spLaw K, KX, hb, fun H a ns hl _ hS => ⟨a, ns, rfl, hS, hl, fun _ => rfl⟩, hF⟩

