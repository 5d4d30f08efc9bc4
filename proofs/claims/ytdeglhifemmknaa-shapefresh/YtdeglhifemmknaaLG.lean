
/- ShapeFresh: what a call of All answers. -/

import Derived.Test.YtdeglhifemmknaaLF

namespace Go.Proofs.Ytdeglhifemmknaa

open Go.RowKit Go.Shelf
attribute [local go_sem] Oper.semAt_some
set_option linter.unusedVariables false

theorem cell_loop {W : World} {l : Nat} {r : Loop} (h : W.heap[l]? = some (.loop r)) (off : Nat) : W.cell? ⟨l, off, none⟩ = none := by
  simp [World.cell?, h]
theorem Rd.keptL {w w' : World} {l : Nat} {r : Loop} {ao : Option Addr} {n : Nat} {zs : List Int} (h : Rd w ao n zs) (hg : w.grownBy w' (some l)) (hl : w.heap[l]? = some (.loop r)) : Rd w' ao n zs := by
  refine ⟨h.len, h.room, h.num, fun h0 => ?_⟩
  obtain ⟨b, off, e, hb, hc⟩ := h.cells h0
  refine ⟨b, off, e, Nat.lt_of_lt_of_le hb hg.size, fun k hk => hg.cell (hc k hk) (fun e => ?_)⟩
  cases e
  have := hc 0 h0
  rw [cell_loop hl] at this
  cases this
theorem Fr.keptL {w w' : World} {B l : Nat} {r : Loop} {ao : Option Addr} {n cap : Nat} {zs : List Int} (h : Fr w B ao n cap zs) (hg : w.grownBy w' (some l)) (hl : w.heap[l]? = some (.loop r)) : Fr w' B ao n cap zs := by
  refine h.kept hg ?_
  rcases h.own.2 with ⟨e, _⟩ | ⟨g, c, cur, e, _, hgg, _⟩
  · cases e; intro b off e; cases e
  · cases e
    intro b off e e2
    cases e; cases e2
    rw [hl] at hgg
    cases hgg
theorem Sq.kept {w w' : World} {row : Option Nat} {B1 B2 : Nat} {co : Option Addr} {n c : Nat} {zs : List Int} (h : Sq w B1 B2 co n c zs) (hg : w.grownBy w' row) (h1 : some B1 ≠ row) (h2 : some B2 ≠ row) (h3 : ∀ b off, co = some ⟨b, off, none⟩ → some b ≠ row) : Sq w' B1 B2 co n c zs :=
  ⟨h.size.kept hg h1, h.list.kept hg h2, h.rd.kept hg h3⟩
set_option maxRecDepth 100000 in
set_option maxHeartbeats 4000000 in
/-- What All handed out, ranged over: place by place, till the round has had enough. -/
theorem all1_brk (q l B1 B2 : Nat) (hq : 1 ≤ q) (co : Option Addr) (n c : Nat) (zs : List Int) (J : Nat → World → Prop) (D : World → Prop)
    (hJ : ∀ k W, J k W → Sq W B1 B2 co n c zs) (hJb : ∀ k W W', J k W → Below W.heap.size W W' → J k W')
    (hY : ∀ (k : Nat) W0 W ao c', (k : Int) < pr zs → mayF zs = 0 → J k W → Below W0.heap.size W0 W → J k W0 → Fr W W0.heap.size ao n c' (digs zs k) → YieldAt Fence.wide (q - 1) Try.prog l #[.int .i64 (k : Nat), .slice ao n c'] W fun e W' => (e = .returned (.bool true) ∧ J (k + 1) W') ∨ (e = .returned (.bool false) ∧ D W'))
    (W : World) (hs : J 0 W) :
    CallsIn Fence.wide q Try.prog 34 #[.func (.yield l) #[] #[], .pointer (some ⟨B1, 0, none⟩), .pointer (some ⟨B2, 0, none⟩)] W fun e W' => (∃ v, e = .returned v) ∧ ((∃ k, J k W') ∨ D W') := by
  have hbd := sizeF_bd zs
  have c1 := (hJ _ _ hs).size.cell
  refine callsIn_of_wp Try.func34 rfl trivial ?_ rfl
  simp only [Try.ntmps34, List.size_toArray, List.length_cons, List.length_nil, Nat.reduceAdd, Nat.reduceSub, Array.replicate_succ, Array.replicate_zero, List.push_toArray, List.append_toArray, List.nil_append, List.cons_append]
  gi_wp2
  gi_loopw [6] (fun i wr => ∃ k : Nat, (k : Int) ≤ sizeF zs ∧ i = .int .i64 (k : Nat) ∧ J k wr) (fun i _ => (sizeF zs - intOf i).toNat)
  case atStart => exact ⟨0, by simpa using hbd.1, rfl, hs⟩
  case round =>
    obtain ⟨k, hk, rfl, hJk⟩ := hrel
    clear c1 hs
    have q1 := hJ _ _ hJk
    by_cases hlt : (k : Int) < sizeF zs
    · have h0 : mayF zs = 0 := by
        by_cases e : mayF zs = 0
        · exact e
        · have := sizeF_no e; omega
      have hpr := sizeF_ok h0
      have hpb := pr_le h0
      have hpos := allPos_of h0 (p := (k : Nat)) (by omega) (by omega)
      have cl := q1.list.cell
      have hi := indices_any co n c zs (k : Nat) wr q1.rd hpos (by omega) (by omega)
      have H0 := (show Hid _ from h0)
      have HPR := (show Hid _ from hpr)
      have HPB := (show Hid _ from hpb)
      clear q1 h0 hpr hpb hpos
      gi_wp2_with (refine ⟨trivial, ?_⟩; gi_at_call 26; refine (callsIn_wide.2 hi).mono ?_; rintro e w2 ⟨ao, c2, rfl, hf, hb2⟩; have hJ2 := hJb _ _ _ hJk hb2; obtain ⟨fn, tmps, assign, body, hy, hR⟩ := hY k wr w2 ao c2 (by have := HPR.out; omega) H0.out hJ2 hb2 hJk hf)
      refine hR.mono ?_
      rintro e W3 (⟨rfl, hJ3⟩ | ⟨rfl, hD⟩)
      · have hk9 : (k : Int) + 1 ≤ 9223372036854775806 := by have := HPR.out; have := HPB.out; omega
        have hk8 : (k : Int) + 1 ≤ sizeF zs := by omega
        gi_wp2
        go_roundw
        case rel => exact ⟨k + 1, by omega, by go_num, hJ3⟩
        case measure => simp [intOf]; omega
      · gi_wp2
        refine bodyPost_ret (results_none rfl _ _ _) rfl ?_
        exact ⟨⟨_, rfl⟩, .inr hD⟩
    · gi_wp2
      go_end0
      exact ⟨⟨_, rfl⟩, .inl ⟨k, hJk⟩⟩

/-- A body that does not panic. -/
def bodyPostN (F : Fence) (n : Nat) (P : Program) (fn : Func) (R : Ending → World → Prop) : Exit → Act → World → Prop
  | .normal, a, w | .ret, a, w => LeavesInM F n P fn a.tmps R a.defers .returning w
  | _, _, _ => False
theorem bodyPostN_le {F : Fence} {n : Nat} {P : Program} {fn : Func} {R : Ending → World → Prop} : ∀ e a w, bodyPostN F n P fn R e a w → bodyPostM F n P fn R e a w
  | .normal, _, _, h => h
  | .ret, _, _, h => h
  | .panic _, _, _, h => h.elim
  | .outgrown, _, _, h => h.elim
  | .exit _, _, _, h => h.elim
  | .goto _, _, _, h => h.elim
theorem wpListIn_push {t e : TypeId} (hund : Try.prog.underlying t = some (.slice e)) (hinfo : (Try.prog.info? e).map (fun i => (i.zero, i.size, i.bytes)) = some (some (.slice none 0 0), 1, 24)) {F : Fence} {n' : Nat} {w : World} {ops : Array Oper} {rest : List Oper} {o : Oper} {a : Act} {Q : Exit → Act → World → Prop} (hgd : o.guard = none) (s x : Operand)
    (ho : o.op = .call { callee := .builtin .append, args := #[s, x], argTypes := #[t, t] }) (B : Nat) (hB : B ≤ w.heap.size) (go : Option Addr) (k gc : Nat) (gs : List Value) (hs : a.eval s = .slice go k gc) (hown : w.ownsRow B e 1 (.slice go k gc) k gs) (g : Nat) (hx : a.eval x = .slice (some ⟨g, 0, none⟩) 1 1) (y : Value) (hc : w.cell? ⟨g, 0, none⟩ = some y) (hy : y.oneCell' = true) (hn : (k + 1) * 24 ≤ 140737488355328)
    (hK : ∀ go' gc' w', w'.ownsRow B e 1 (.slice go' (k + 1) gc') (k + 1) (gs ++ [y]) → w.grownBy w' (Value.slice go k gc).ownBlock → ((Value.slice go' (k + 1) gc').ownBlock = (Value.slice go k gc).ownBlock ∨ (Value.slice go' (k + 1) gc').ownBlock = some w.heap.size) → wpListIn F n' Try.prog ops Q rest (a.put o.dst (.slice go' (k + 1) gc')) w') : wpListIn F n' Try.prog ops Q (o :: rest) a w := by
  obtain ⟨i0, hi, hz0, hz1, hz2⟩ := info_parts hinfo
  obtain ⟨v', w', hrun, h1, h2, _, h4⟩ := run_append_own_at (P := Try.prog) w B t o.type e i0 (.slice none 0 0) 1 24 hund hi hz0 hz1 hz2 rfl (by decide) _ k gs hown ⟨g, 0, none⟩ 1 1 [y] rfl
    (fun j u hj => by
      match j, hj with
      | 0, hj => simp at hj; subst hj; simpa [Addr.add] using hc) (fun u hu => by simp at hu; subst hu; exact hy) (by unfold maxLen; omega) (by omega) hB
  obtain ⟨go', gc', rfl⟩ := own_len h1
  refine wpListIn_plain hgd fun K hK' => ?_
  unfold Oper.wpIn
  refine ⟨?_, ?_⟩
  · simp [Oper.about, ho, resolve, Target.leads, Sem.run_pure]
  · rw [Oper.semAt_plain F _ _ (by rw [ho]; intro c hc'; cases hc')]
    simp [execOp, ho, resolve, invoke, builtin, hs, hx, hrun, Result.andThen]
    exact hK' _ _ (hK _ _ _ h1 h2 h4)

theorem Lg.keptL {V V' : World} {M l : Nat} {r : Loop} {go : Option Addr} {k gc : Nat} {f : Nat → List Int} {gs : List Value} (h : Lg V M go k gc f gs) (hg : V.grownBy V' (some l)) (hl : V.heap[l]? = some (.loop r)) : Lg V' M go k gc f gs := by
  have nl : ∀ {e : TypeId} {n : Nat} {v : Value} {xs : List Value} {B : Nat}, V.ownsRow B e 1 v n xs → ∀ g, v.ownBlock = some g → ¬ some l = some g := by
    intro e n v xs B ho g hv hh
    cases hh
    obtain ⟨cs, hc⟩ := ownB ho hv
    rw [hl] at hc
    cases hc
  have c := Chg.of_grown hg
  refine ⟨c.own h.own (nl h.own), fun j hj => ?_, h.apart⟩
  obtain ⟨a, n, cc, h1, h2⟩ := h.rows j hj
  exact ⟨a, n, cc, h1, h2.chg c (nl h2.own)⟩

theorem Lg.lt {V : World} {M : Nat} {go : Option Addr} {k gc : Nat} {f : Nat → List Int} {gs : List Value} (h : Lg V M go k gc f gs) (j : Nat) (v : Value) (g : Nat) (hj : gs[j]? = some v) (hv : v.ownBlock = some g) : g < V.heap.size := by
  obtain ⟨a', n', c', h1, h2⟩ := h.rows j (by have := (List.getElem?_eq_some_iff.1 hj).1; have := h.len; omega)
  rw [hj] at h1
  cases h1
  exact (h2.geL hv).2
theorem Lg.push2 {V1 A W9 : World} {M B0 : Nat} {go go' : Option Addr} {k gc gc' : Nat} {f : Nat → List Int} {gs : List Value} {a : Option Addr} {n c : Nat} (h : Lg V1 M go k gc f gs) (hlt : ∀ (j : Nat) (v : Value) (g : Nat), gs[j]? = some v → v.ownBlock = some g → g < B0) (hM : M ≤ B0) (hx : Fr V1 B0 a n c (f k)) (bA : Below V1.heap.size V1 A)
    (r9 : W9.ownsRow M 28 1 (.slice go' (k + 1) gc') (k + 1) (gs ++ [.slice a n c])) (g9 : A.grownBy W9 (Value.slice go k gc).ownBlock) : Lg W9 M go' (k + 1) gc' f (gs ++ [.slice a n c]) := by
  have hA := h.below bA
  have xA := hx.below bA (Nat.le_refl _)
  have k9 := Chg.of_grown g9
  have nt : ∀ {v : Value} {n : Nat} {xs : List Value} {B : Nat}, A.ownsRow B 3 1 v n xs → ∀ g, v.ownBlock = some g → ¬ (Value.slice go k gc).ownBlock = some g := by
    intro v n xs B ho g hv hh
    obtain ⟨cs, hc⟩ := ownB ho hv
    obtain ⟨cs', hc'⟩ := ownB hA.own hh
    exact absurd (kindB hc hc') (by decide)
  have hl := h.len
  refine ⟨r9, fun j hj => ?_, fun i j v u g hi hj hv hu => ?_⟩
  · by_cases e : j = k
    · subst e
      exact ⟨a, n, c, by rw [← hl]; simp, (xA.chg k9 fun g hg => nt xA.own g hg).mono hM⟩
    · obtain ⟨a', n', c', h1, h2⟩ := hA.rows j (by omega)
      exact ⟨a', n', c', by rw [List.getElem?_append_left (by omega)]; exact h1, h2.chg k9 fun g hg => nt h2.own g hg⟩
  · have old : ∀ (j : Nat) (v : Value) (g : Nat), gs[j]? = some v → v.ownBlock = some g → (Value.slice a n c).ownBlock = some g → False := fun j v g hj hv hx' => by
      have := hlt j v g hj hv
      have := (hx.geL hx').1
      omega
    rcases last_of hi with ⟨hi', _⟩ | ⟨e1, e2⟩ <;> rcases last_of hj with ⟨hj', _⟩ | ⟨e3, e4⟩
    · exact h.apart i j v u g hi' hj' hv hu
    · subst e4; exact (old i v g hi' hv hu).elim
    · subst e2; exact (old j u g hj' hu hv).elim
    · omega
theorem Lg.past {A W9 : World} {M k2 : Nat} {go : Option Addr} {k gc : Nat} {f : Nat → List Int} {gs ms : List Value} {v : Value} (h : Lg A M go k gc f gs) (ho : A.ownsRow M 28 1 v k2 ms) (hno : ∀ g, (Value.slice go k gc).ownBlock = some g → v.ownBlock ≠ some g) (g9 : A.grownBy W9 v.ownBlock) : Lg W9 M go k gc f gs := by
  refine ⟨(Chg.of_grown g9).own h.own hno, fun j hj => ?_, h.apart⟩
  obtain ⟨a, n, cc, h1, h2⟩ := h.rows j hj
  exact ⟨a, n, cc, h1, h2.past ho g9⟩
theorem Lg.keptO {V V' : World} {M l : Nat} {go : Option Addr} {k gc : Nat} {f : Nat → List Int} {gs : List Value} (h : Lg V M go k gc f gs) (hg : V.grownBy V' (some l)) (hl : ∀ cs t, V.heap[l]? ≠ some (.cells cs t (0, 0))) : Lg V' M go k gc f gs := by
  have nl : ∀ {e : TypeId} {n : Nat} {v : Value} {xs : List Value} {B : Nat}, V.ownsRow B e 1 v n xs → ∀ g, v.ownBlock = some g → ¬ some l = some g := by
    intro e n v xs B ho g hv hh
    cases hh
    obtain ⟨cs, hc⟩ := ownB ho hv
    exact hl _ _ hc
  have c := Chg.of_grown hg
  refine ⟨c.own h.own (nl h.own), fun j hj => ?_, h.apart⟩
  obtain ⟨a, n, cc, h1, h2⟩ := h.rows j hj
  exact ⟨a, n, cc, h1, h2.chg c (nl h2.own)⟩
theorem boxed_keptZ {W W' : World} {B l : Nat} {t : TypeId} {v : Value} {r : Loop} (h : Boxed W B t v) (hg : W.grownBy W' (some l)) (hl : W.heap[l]? = some (.loop r)) : Boxed W' B t v := by
  refine h.kept hg (fun e => ?_)
  cases e
  have h' : W.heap[B]? = _ := h
  rw [hl] at h'
  cases h'
/-- Where the law's own memory lies. -/
structure Gm (w : World) (M Bg Bw B1 B2 : Nat) (cq : Option Addr) : Prop where
  g : w.heap.size + 2 ≤ Bg ∧ Bg < M
  v : w.heap.size + 2 ≤ Bw ∧ Bw < M
  ne : Bg ≠ Bw
  b1 : Bg ≠ B1 ∧ Bw ≠ B1
  b2 : Bg ≠ B2 ∧ Bw ≠ B2
  b : B1 < M ∧ B2 < M
  q : ∀ b off, cq = some ⟨b, off, none⟩ → b < M ∧ b ≠ Bg ∧ b ≠ Bw
/-- Between two rounds of the law's own range over All. -/
structure Al (w : World) (N : Int) (so ro lo uo vo oo : Option Addr) (sn sc rn rc n lc uc vc on oc M Bg Bw B1 B2 : Nat) (cq : Option Addr) (cc : Nat) (S : List Int) (k1 k2 : Nat) (go mo : Option Addr) (gc mc : Nat) (gs ms : List Value) (V : World) : Prop where
  two : Two w V 8 N so ro lo uo vo oo sn sc rn rc n lc uc vc on oc
  sq : Sq V B1 B2 cq sn cc S
  gb : Boxed V Bg 29 (.slice go k1 gc)
  wb : Boxed V Bw 29 (.slice mo k2 mc)
  got : Lg V M go k1 gc (fun j => digs S j) gs
  want : Lg V M mo k2 mc (fun j => digs S j) ms
  no : ∀ g, (Value.slice go k1 gc).ownBlock = some g → (Value.slice mo k2 mc).ownBlock ≠ some g
  sz : M ≤ V.heap.size
section
variable {w V V' : World} {N : Int} {so ro lo uo vo oo cq go mo : Option Addr} {sn sc rn rc n lc uc vc on oc M Bg Bw B1 B2 cc k1 k2 gc mc : Nat} {S : List Int} {gs ms : List Value}

theorem Al.below (h : Al w N so ro lo uo vo oo sn sc rn rc n lc uc vc on oc M Bg Bw B1 B2 cq cc S k1 k2 go mo gc mc gs ms V) (b : Below V.heap.size V V') : Al w N so ro lo uo vo oo sn sc rn rc n lc uc vc on oc M Bg Bw B1 B2 cq cc S k1 k2 go mo gc mc gs ms V' := by
  have g := grownL b
  exact ⟨h.two.below b h.two.two, h.sq.kept g (by simp) (by simp) (by simp), h.gb.kept g (by simp), h.wb.kept g (by simp), h.got.below b, h.want.below b, h.no, Nat.le_trans h.sz b.size⟩
theorem Al.keptL {l : Nat} {r : Loop} (h : Al w N so ro lo uo vo oo sn sc rn rc n lc uc vc on oc M Bg Bw B1 B2 cq cc S k1 k2 go mo gc mc gs ms V) (hg : V.grownBy V' (some l)) (hl : V.heap[l]? = some (.loop r)) (hw : w.heap.size + 2 ≤ l) : Al w N so ro lo uo vo oo sn sc rn rc n lc uc vc on oc M Bg Bw B1 B2 cq cc S k1 k2 go mo gc mc gs ms V' := by
  have hs := hg.size
  exact ⟨⟨(hg.block _ (by have := h.two.two; omega) (some_ne (by omega))).trans h.two.b0, (hg.block _ (by have := h.two.two; omega) (some_ne (by omega))).trans h.two.b1, h.two.bel.grown hg h.two.bel.size (fun k e => by cases e; omega), Nat.le_trans h.two.two hs⟩, ⟨boxed_keptZ h.sq.size hg hl, boxed_keptZ h.sq.list hg hl, h.sq.rd.keptL hg hl⟩, boxed_keptZ h.gb hg hl, boxed_keptZ h.wb hg hl, h.got.keptL hg hl, h.want.keptL hg hl, h.no, Nat.le_trans h.sz hs⟩
theorem Two.low {p : Nat} {v : Value} {K : Int} (h : Two w V K N so ro lo uo vo oo sn sc rn rc n lc uc vc on oc) (hp : w.heap.size + 2 ≤ p) : Two w (V.setCell ⟨p, 0, none⟩ v) K N so ro lo uo vo oo sn sc rn rc n lc uc vc on oc :=
  ⟨(heap_setCell_other V ⟨p, 0, none⟩ _ _ (by simp; omega)).trans h.b0, (heap_setCell_other V ⟨p, 0, none⟩ _ _ (by simp; omega)).trans h.b1, h.bel.setCell (p := ⟨p, 0, none⟩) (by simp; omega) _, by simpa using h.two⟩
theorem Al.pushG {A W9 : World} {B0 a9n c9 : Nat} {a9 go' : Option Addr} {gc' : Nat} (h : Al w N so ro lo uo vo oo sn sc rn rc n lc uc vc on oc M Bg Bw B1 B2 cq cc S k1 k2 go mo gc mc gs ms V) (G : Gm w M Bg Bw B1 B2 cq) (hlt : ∀ (j : Nat) (v : Value) (g : Nat), gs[j]? = some v → v.ownBlock = some g → g < B0) (hM : M ≤ B0) (hx : Fr V B0 a9 a9n c9 (digs S k1)) (bA : Below V.heap.size V A)
    (r9 : W9.ownsRow M 28 1 (.slice go' (k1 + 1) gc') (k1 + 1) (gs ++ [.slice a9 a9n c9])) (g9 : A.grownBy W9 (Value.slice go k1 gc).ownBlock) (p9 : (Value.slice go' (k1 + 1) gc').ownBlock = (Value.slice go k1 gc).ownBlock ∨ (Value.slice go' (k1 + 1) gc').ownBlock = some A.heap.size) :
    Al w N so ro lo uo vo oo sn sc rn rc n lc uc vc on oc M Bg Bw B1 B2 cq cc S (k1 + 1) k2 go' mo gc' mc (gs ++ [.slice a9 a9n c9]) ms (W9.setCell ⟨Bg, 0, none⟩ (.slice go' (k1 + 1) gc')) ∧ Boxed W9 Bg 29 (.slice go k1 gc) := by
  have hA := h.below bA
  have bM : Below M A W9 := ⟨g9.os, g9.tape, g9.output, g9.size, fun p hp => g9.block p (by have := hA.sz; omega) (fun e => by have := (hA.got.own.lt p e.symm).1; omega)⟩
  have gM : A.grownBy W9 (Value.slice go k1 gc).ownBlock := g9
  have kb : ∀ {B : Nat} {t : TypeId} {v : Value}, B < M → Boxed A B t v → Boxed W9 B t v := fun hB hb => (bM.block _ hB).trans hb
  have T9 := hA.two.below bM (by have := G.g; omega)
  have Q9 : Sq W9 B1 B2 cq sn cc S := ⟨kb G.b.1 hA.sq.size, kb G.b.2 hA.sq.list, hA.sq.rd.kept g9 (fun b off e e2 => by have := (hA.got.own.lt b e2.symm).1; have := (G.q b off e).1; omega)⟩
  have gb9 := kb G.g.2 hA.gb
  have L9 := h.got.push2 hlt hM hx bA r9 g9
  have W9' := hA.want.past hA.got.own (fun g hg e => hA.no g e hg) g9
  have s9 := grownBy_setCell' W9 Bg (.slice go' (k1 + 1) gc')
  refine ⟨⟨T9.low G.g.1, ⟨Q9.size.kept s9 (some_ne (Ne.symm G.b1.1)), Q9.list.kept s9 (some_ne (Ne.symm G.b2.1)), Q9.rd.kept s9 (fun b off e => some_ne (G.q b off e).2.1)⟩, gb9.set _, (kb G.v.2 hA.wb).kept s9 (some_ne (Ne.symm G.ne)), L9.low G.g.2 _, W9'.low G.g.2 _, fun g hg e => ?_, by have := hA.sz; have := g9.size; simp; omega⟩, gb9⟩
  rcases p9 with p | p
  · rw [p] at hg; exact h.no g hg e
  · rw [p] at hg
    cases hg
    have := (h.want.own.lt _ e).2
    have := bA.size
    omega
theorem Al.pushW {A W9 : World} {B0 a9n c9 : Nat} {a9 mo' : Option Addr} {mc' : Nat} (h : Al w N so ro lo uo vo oo sn sc rn rc n lc uc vc on oc M Bg Bw B1 B2 cq cc S k1 k2 go mo gc mc gs ms V) (G : Gm w M Bg Bw B1 B2 cq) (hlt : ∀ (j : Nat) (v : Value) (g : Nat), ms[j]? = some v → v.ownBlock = some g → g < B0) (hM : M ≤ B0) (hx : Fr V B0 a9 a9n c9 (digs S k2)) (bA : Below V.heap.size V A)
    (r9 : W9.ownsRow M 28 1 (.slice mo' (k2 + 1) mc') (k2 + 1) (ms ++ [.slice a9 a9n c9])) (g9 : A.grownBy W9 (Value.slice mo k2 mc).ownBlock) (p9 : (Value.slice mo' (k2 + 1) mc').ownBlock = (Value.slice mo k2 mc).ownBlock ∨ (Value.slice mo' (k2 + 1) mc').ownBlock = some A.heap.size) :
    Al w N so ro lo uo vo oo sn sc rn rc n lc uc vc on oc M Bg Bw B1 B2 cq cc S k1 (k2 + 1) go mo' gc mc' gs (ms ++ [.slice a9 a9n c9]) (W9.setCell ⟨Bw, 0, none⟩ (.slice mo' (k2 + 1) mc')) ∧ Boxed W9 Bw 29 (.slice mo k2 mc) := by
  have hA := h.below bA
  have bM : Below M A W9 := ⟨g9.os, g9.tape, g9.output, g9.size, fun p hp => g9.block p (by have := hA.sz; omega) (fun e => by have := (hA.want.own.lt p e.symm).1; omega)⟩
  have kb : ∀ {B : Nat} {t : TypeId} {v : Value}, B < M → Boxed A B t v → Boxed W9 B t v := fun hB hb => (bM.block _ hB).trans hb
  have T9 := hA.two.below bM (by have := G.g; omega)
  have Q9 : Sq W9 B1 B2 cq sn cc S := ⟨kb G.b.1 hA.sq.size, kb G.b.2 hA.sq.list, hA.sq.rd.kept g9 (fun b off e e2 => by have := (hA.want.own.lt b e2.symm).1; have := (G.q b off e).1; omega)⟩
  have wb9 := kb G.v.2 hA.wb
  have L9 := h.want.push2 hlt hM hx bA r9 g9
  have G9' := hA.got.past hA.want.own (fun g hg e => hA.no g hg e) g9
  have s9 := grownBy_setCell' W9 Bw (.slice mo' (k2 + 1) mc')
  refine ⟨⟨T9.low G.v.1, ⟨Q9.size.kept s9 (some_ne (Ne.symm G.b1.2)), Q9.list.kept s9 (some_ne (Ne.symm G.b2.2)), Q9.rd.kept s9 (fun b off e => some_ne (G.q b off e).2.2)⟩, (kb G.g.2 hA.gb).kept s9 (some_ne G.ne), wb9.set _, G9'.low G.v.2 _, L9.low G.v.2 _, fun g hg e => ?_, by have := hA.sz; have := g9.size; simp; omega⟩, wb9⟩
  rcases p9 with p | p
  · rw [p] at e; exact h.no g hg e
  · rw [p] at e
    cases e
    have := (h.got.own.lt _ hg).2
    have := bA.size
    omega
end

theorem Lp.past {L : Lp} {st : LoopState} {pe : Option Code} {l : Nat} {A W9 : World} {B e n : Nat} {v : Value} {xs : List Value} (h : L.is st pe l A) (ho : A.ownsRow B e 1 v n xs) (g9 : A.grownBy W9 v.ownBlock) : L.is st pe l W9 := by
  refine h.kept g9 (fun e2 => ?_) (fun e2 => ?_)
  · obtain ⟨cs, hc⟩ := ownB ho e2.symm
    rw [h.1] at hc; cases hc
  · obtain ⟨cs, hc⟩ := ownB ho e2.symm
    rw [h.2.1] at hc; cases hc
theorem Fr.pastL {V A W9 : World} {M B0 k p : Nat} {a : Option Addr} {n c : Nat} {zs : List Int} {v u : Value} {gs : List Value} (h : Fr V B0 a n c zs) (hM : p < B0) (bA : Below V.heap.size V A) (ho : A.ownsRow M 28 1 v k gs) (g9 : A.grownBy W9 v.ownBlock) : Fr (W9.setCell ⟨p, 0, none⟩ u) B0 a n c zs := by
  refine Fr.low ((h.below bA (Nat.le_refl _)).chg (Chg.of_grown g9) fun g hg e => ?_) hM u
  obtain ⟨cs, hc⟩ := ownB (h.below bA (Nat.le_refl _)).own hg
  obtain ⟨cs', hc'⟩ := ownB ho e
  exact absurd (kindB hc hc') (by decide)
theorem Al.ans {w V : World} {N : Int} {so ro lo uo vo oo cq go mo : Option Addr} {sn sc rn rc n lc uc vc on oc M Bg Bw B1 B2 cc k gc mc l : Nat} {S : List Int} {gs ms : List Value} (h : Al w N so ro lo uo vo oo sn sc rn rc n lc uc vc on oc M Bg Bw B1 B2 cq cc S k k go mo gc mc gs ms V) (hM : w.heap.size ≤ M) (hl : V.heap[l]? = some (.deferred (some []))) (hwl : w.heap.size ≤ l) (hk : k ≤ 40) : Ans w (V.putObj l (.deferred none)) go mo k gc mc (fun j => digs S j) gs ms := by
  have g := grownBy_putObj' V l (.deferred none)
  have nc : ∀ cs t, V.heap[l]? ≠ some (.cells cs t (0, 0)) := fun cs t e => by rw [hl] at e; cases e
  exact ⟨(h.got.keptO g nc).mono hM, (h.want.keptO g nc).mono hM, h.two.bel.grown g h.two.bel.size (fun k e => by cases e; exact hwl), hk⟩

set_option maxRecDepth 20000 in
set_option maxHeartbeats 16000000 in
theorem lists_all (N : Int) (so ro lo : Option Addr) (sn sc rn rc n lc : Nat) (S T : List Int) (Z : List (List Int)) (w : World) (hS : Rd w so sn S) (sS : Sl so sn sc) (hT : Rd w ro rn T) (sT : Sl ro rn rc) (hZ : Rs w lo n Z) (N1 : -9223372036854775808 ≤ N) (N2 : N ≤ 9223372036854775807) :
    Calls Try.prog 7 #[.agg #[.int .i64 8, .slice so sn sc, .slice ro rn rc, .int .i64 N, .slice lo n lc]] w fun e w' => ∃ lo' mo' m lc' mc' f gs ms, e = .returned (.tuple #[.slice lo' m lc', .slice mo' m mc', .bool true]) ∧ Ans w w' lo' mo' m lc' mc' f gs ms := by
  have rS := hS.room
  have rT := hT.room
  have H0 : Two w ((w.alloc (.cells #[.int .i64 8, .slice so sn sc, .slice ro rn rc, .int .i64 N, .slice lo n lc] 31)).alloc (.cells #[.int .i64 8, .slice so sn sc, .slice ro rn rc, .int .i64 N, .slice lo n lc] 31)) 8 N so ro lo so ro lo sn sc rn rc n lc sc rc n lc := by
    have z0 := allocNewL w (.cells #[.int .i64 8, .slice so sn sc, .slice ro rn rc, .int .i64 N, .slice lo n lc] 31)
    have z1 := allocNewL (w.alloc (.cells #[.int .i64 8, .slice so sn sc, .slice ro rn rc, .int .i64 N, .slice lo n lc] 31)) (.cells #[.int .i64 8, .slice so sn sc, .slice ro rn rc, .int .i64 N, .slice lo n lc] 31)
    rw [World.size_alloc] at z1
    exact ⟨(heap_alloc_old _ _ (by simp)).trans z0, z1, ((Below.refl _ w).alloc (Nat.le_refl _) _).alloc (by simp) _, by simp⟩
  have HH0 := (show Hid _ from H0)
  obtain ⟨⟨a0, a1, a2, a3, a4⟩, fa⟩ := box5L H0.b0
  have hS2 := hS.below H0.bel (Nat.le_refl _)
  clear H0
  refine (callsIn_wide (n := 9)).1 ?_
  refine callsIn_of_wp_marks Try.func7 rfl trivial ?_ rfl
  simp only [Try.ntmps7, List.size_toArray, List.length_cons, List.length_nil, Nat.reduceAdd, Nat.reduceSub, Array.replicate_succ, Array.replicate_zero, List.push_toArray, List.append_toArray, List.nil_append, List.cons_append]
  refine wpIn_mono (Q := bodyPostN Fence.wide 9 Try.prog Try.f7 _) ?_ bodyPostN_le
  refine wpIn_wide.2 ?_
  go_upto_region 2 with fail
  generalize (w.alloc (.cells #[.int .i64 8, .slice so sn sc, .slice ro rn rc, .int .i64 N, .slice lo n lc] 31)).alloc (.cells #[.int .i64 8, .slice so sn sc, .slice ro rn rc, .int .i64 N, .slice lo n lc] 31) = W2 at *
  go_upto_region 3 with (at_builtin; refine wpList_join rfl (.const (.slice none 0 0)) (.tmp 21) rfl (w.heap.size + 2) none so 0 0 sn sc [] S rfl rfl (Fr.nil _ _) hS2 sS (by omega) HH0.out.two ?_; intro co1 c1 w3 f1 b1; rw [Nat.zero_add] at f1; rw [List.nil_append] at f1; have H3 := HH0.out.below b1 (Nat.le_refl _); obtain ⟨⟨d0, d1, d2, d3, d4⟩, fd⟩ := box5L H3.b1; have fd1 := fd 1)
  have H4 : Hid (Two w (w3.setCell ⟨w.heap.size + 1, 1, none⟩ (.slice co1 sn c1)) 8 N so ro lo co1 ro lo sn sc rn rc n lc c1 rc n lc) := H3.set1
  have F4 : Hid (Fr (w3.setCell ⟨w.heap.size + 1, 1, none⟩ (.slice co1 sn c1)) (w.heap.size + 2) co1 sn c1 S) := f1.low (by omega) _
  clear f1 b1 H3 d0 d1 d2 d3 d4 fd fd1 a0 a1 a2 a3 a4 fa hS2 HH0
  generalize w3.setCell ⟨w.heap.size + 1, 1, none⟩ (.slice co1 sn c1) = W4 at *
  obtain ⟨⟨a0, a1, a2, a3, a4⟩, fa⟩ := box5L H4.out.b0
  have hT4 := hT.below H4.out.bel (Nat.le_refl _)
  go_upto_region 4 with (at_builtin; refine wpList_join rfl (.const (.slice none 0 0)) (.tmp 25) rfl W4.heap.size none ro 0 0 rn rc [] T rfl rfl (Fr.nil _ _) hT4 sT (by omega) (Nat.le_refl _) ?_; intro co2 c2 w5 f2 b2; rw [Nat.zero_add] at f2; rw [List.nil_append] at f2; have H5 := H4.out.below b2 H4.out.two; have f4b := F4.out.below b2 (Nat.le_refl _); obtain ⟨⟨d0, d1, d2, d3, d4⟩, fd⟩ := box5L H5.b1; have fd1 := fd 2)
  have H6 : Two w (w5.setCell ⟨w.heap.size + 1, 2, none⟩ (.slice co2 rn c2)) 8 N so ro lo co1 co2 lo sn sc rn rc n lc c1 c2 n lc := H5.set2
  have F6 : Fr (w5.setCell ⟨w.heap.size + 1, 2, none⟩ (.slice co2 rn c2)) (w.heap.size + 2) co1 sn c1 S := f4b.low (by omega) _
  have F6' : Fr (w5.setCell ⟨w.heap.size + 1, 2, none⟩ (.slice co2 rn c2)) (w.heap.size + 2) co2 rn c2 T := (f2.mono H4.out.two).low (by omega) _
  clear f2 b2 f4b H5 d0 d1 d2 d3 d4 fd fd1 a0 a1 a2 a3 a4 fa hT4 H4 F4
  generalize w5.setCell ⟨w.heap.size + 1, 2, none⟩ (.slice co2 rn c2) = W6 at *
  obtain ⟨⟨d0, d1, d2, d3, d4⟩, fd⟩ := box5L H6.b1
  have fd4 := fd 4
  have H7 := H6.set4 (oo' := none) (on' := 0) (oc' := 0)
  have F7 := F6.low (p := w.heap.size + 1) (o := 4) (by omega) (.slice none 0 0)
  have F7' := F6'.low (p := w.heap.size + 1) (o := 4) (by omega) (.slice none 0 0)
  have L7 := Lg.nil (W6.setCell ⟨w.heap.size + 1, 4, none⟩ (.slice none 0 0)) (w.heap.size + 2) (row Z)
  clear H6 F6 F6'
  go_wp2
  clear d0 d1 d2 d3 d4 fd fd4
  generalize W6.setCell ⟨w.heap.size + 1, 4, none⟩ (.slice none 0 0) = W7 at *
  go_loopw [6] (fun i V => ∃ k : Nat, k ≤ n ∧ i = .int .i64 (k : Nat) ∧ ∃ oo oc gs, Two w V 8 N so ro lo co1 co2 oo sn sc rn rc n lc c1 c2 k oc ∧ Fr V (w.heap.size + 2) co1 sn c1 S ∧ Fr V (w.heap.size + 2) co2 rn c2 T ∧ Lg V (w.heap.size + 2) oo k oc (row Z) gs) (fun i _ => n - (intOf i).toNat)
  case atStart => exact ⟨0, Nat.zero_le _, rfl, none, 0, [], H7, F7, F7', L7⟩
  case round =>
    obtain ⟨k, hk, rfl, oo, oc, gs, HT, FS, FT, LL⟩ := hrel
    clear H7 F7 F7' L7
    obtain ⟨⟨a0, a1, a2, a3, a4⟩, fa⟩ := box5L HT.b0
    obtain ⟨⟨d0, d1, d2, d3, d4⟩, fd⟩ := box5L HT.b1
    have HHT := (show Hid _ from HT)
    have HFS := (show Hid _ from (⟨FS, FT⟩ : _ ∧ _))
    have HLL := (show Hid _ from LL)
    have rZ := hZ.room
    by_cases hlt : k < n
    · obtain ⟨b, off, rfl, hbw, hcs⟩ := hZ.cells (by omega)
      obtain ⟨A, L, C, cA0, rA0, sA0⟩ := hcs k hlt
      have cA : wr.cell? ⟨b, off + k, none⟩ = some (.slice A L C) := (World.cell?_of_block (a := ⟨b, off + k, none⟩) (HT.bel.block b hbw)).trans cA0
      have rA := rA0.below HT.bel (Nat.le_refl _)
      have k0 : (0 : Int) ≤ (k : Int) := by omega
      have k1 : (k : Int) < (n : Int) := by omega
      have HS : wr.drew.cell? ⟨w.heap.size + 1, 4, none⟩ = some (.slice oo k oc) ∧ wr.drew.cell? ⟨w.heap.size, 4, none⟩ = some (.slice (some ⟨b, off, none⟩) n lc) ∧ wr.drew.cell? ⟨b, off + k, none⟩ = some (.slice A L C) := ⟨d4, a4, cA⟩
      have HBW : Hid (b < w.heap.size) := hbw
      clear HT FS FT LL hcs cA0 rA0 a0 a1 a2 a3 fa d0 d1 d2 d3 cA
      go_upto_region 8 with fail
      clear a4 d4
      refine wp_region_R (fun V => V.cell? ⟨w.heap.size + 1, 4, none⟩ = some (.slice oo k oc) ∧ V.cell? ⟨w.heap.size, 4, none⟩ = some (.slice (some ⟨b, off, none⟩) n lc) ∧ V.cell? ⟨b, off + k, none⟩ = some (.slice A L C)) (fun i => i != 11) (by kernel_rfl) ?_
      refine wpAnyR_take (i := 0) (v := .pointer (some ⟨w.heap.size + 1, 4, none⟩)) rfl (by kernel_rfl) (by kernel_rfl) (by kernel_rfl) (by kernel_rfl) (fun _ _ _ h => h) (Or.inl ⟨by rfl, fun V hV => ?_⟩) ?_ ?_
      · obtain ⟨g0, g1, g2⟩ := hV
        go_simp
      · exact HS
      conv => arg 9; simp [Act.put]
      refine wpAnyR_take (i := 1) (v := .slice oo k oc) rfl (by kernel_rfl) (by kernel_rfl) (by kernel_rfl) (by kernel_rfl) (fun _ _ _ h => h) (Or.inl ⟨by rfl, fun V hV => ?_⟩) ?_ ?_
      · obtain ⟨g0, g1, g2⟩ := hV
        go_simp
      · exact HS
      conv => arg 9; simp [Act.put]
      refine wpAnyR_take (i := 2) (v := .pointer (some ⟨w.heap.size, 4, none⟩)) rfl (by kernel_rfl) (by kernel_rfl) (by kernel_rfl) (by kernel_rfl) (fun _ _ _ h => h) (Or.inl ⟨by rfl, fun V hV => ?_⟩) ?_ ?_
      · obtain ⟨g0, g1, g2⟩ := hV
        go_simp
      · exact HS
      conv => arg 9; simp [Act.put]
      refine wpAnyR_take (i := 3) (v := .slice (some ⟨b, off, none⟩) n lc) rfl (by kernel_rfl) (by kernel_rfl) (by kernel_rfl) (by kernel_rfl) (fun _ _ _ h => h) (Or.inl ⟨by rfl, fun V hV => ?_⟩) ?_ ?_
      · obtain ⟨g0, g1, g2⟩ := hV
        go_simp
      · exact HS
      conv => arg 9; simp [Act.put]
      refine wpAnyR_take (i := 4) (v := .int .i64 (k : Int)) rfl (by kernel_rfl) (by kernel_rfl) (by kernel_rfl) (by kernel_rfl) (fun _ _ _ h => h) (Or.inl ⟨by rfl, fun V hV => ?_⟩) ?_ ?_
      · obtain ⟨g0, g1, g2⟩ := hV
        go_simp
      · exact HS
      conv => arg 9; simp [Act.put]
      refine wpAnyR_take (i := 5) (v := .pointer (some ⟨b, off + k, none⟩)) rfl (by kernel_rfl) (by kernel_rfl) (by kernel_rfl) (by kernel_rfl) (fun _ _ _ h => h) (Or.inl ⟨by rfl, fun V hV => ?_⟩) ?_ ?_
      · obtain ⟨g0, g1, g2⟩ := hV
        go_simp
      · exact HS
      conv => arg 9; simp [Act.put]
      refine wpAnyR_take (i := 6) (v := .slice A L C) rfl (by kernel_rfl) (by kernel_rfl) (by kernel_rfl) (by kernel_rfl) (fun _ _ _ h => h) (Or.inl ⟨by rfl, fun V hV => ?_⟩) ?_ ?_
      · obtain ⟨g0, g1, g2⟩ := hV
        go_simp
      · exact HS
      conv => arg 9; simp [Act.put]
      refine wpAnyR_one (i := 7) (by kernel_rfl) rfl (fun K hK => ?_)
      refine step_copyL rfl (.const (.slice none 0 0)) (.tmp 42) rfl A L C (row Z k) rfl (by simp [Act.eval]) rA.drew ?_
      intro ao7 c7 w7 f7 b7
      have HS7 : w7.cell? ⟨w.heap.size + 1, 4, none⟩ = some (.slice oo k oc) ∧ w7.cell? ⟨w.heap.size, 4, none⟩ = some (.slice (some ⟨b, off, none⟩) n lc) ∧ w7.cell? ⟨b, off + k, none⟩ = some (.slice A L C) := ⟨(grownL b7).cell HS.1 (by simp), (grownL b7).cell HS.2.1 (by simp), (grownL b7).cell HS.2.2 (by simp)⟩
      refine hK _ _ ⟨fun _ => HS7, ?_⟩
      clear hK
      conv => arg 9; simp [Act.put]
      have DR : Below wr.heap.size wr wr.drew := (Below.refl _ wr).drew
      have L7 := (HLL.out.below DR).below b7
      have b8 := box_belowL w7 (.cells #[.slice ao7 L c7] 28)
      have L8 := L7.below b8
      have n8 := allocNewL w7 (.cells #[.slice ao7 L c7] 28)
      have c8 : (w7.alloc (.cells #[.slice ao7 L c7] 28)).cell? ⟨w7.heap.size, 0, none⟩ = some (.slice ao7 L c7) := (cell_of_row _ _ 0 _ 28 (0, 0) n8).trans rfl
      have HS8 : (w7.alloc (.cells #[.slice ao7 L c7] 28)).cell? ⟨w.heap.size + 1, 4, none⟩ = some (.slice oo k oc) ∧ (w7.alloc (.cells #[.slice ao7 L c7] 28)).cell? ⟨w.heap.size, 4, none⟩ = some (.slice (some ⟨b, off, none⟩) n lc) ∧ (w7.alloc (.cells #[.slice ao7 L c7] 28)).cell? ⟨b, off + k, none⟩ = some (.slice A L C) := ⟨(grownL b8).cell HS7.1 (by simp), (grownL b8).cell HS7.2.1 (by simp), (grownL b8).cell HS7.2.2 (by simp)⟩
      have T8 := ((HHT.out.below DR HHT.out.two).below b7 HHT.out.two).below b8 (Nat.le_trans HHT.out.two b7.size)
      have S8 := ((HFS.out.1.below DR (Nat.le_refl _)).below b7 (Nat.le_refl _)).below b8 (Nat.le_refl _)
      have S8' := ((HFS.out.2.below DR (Nat.le_refl _)).below b7 (Nat.le_refl _)).below b8 (Nat.le_refl _)
      have HF7 := (show Hid _ from f7)
      have HB7 := (show Hid _ from b7)
      have HT8 := (show Hid _ from T8)
      clear T8
      refine wpAnyR_one (i := 8) (by kernel_rfl) rfl (fun K hK => ?_)
      go_simp
      refine hK _ _ ⟨fun _ => HS8, ?_⟩
      clear hK
      conv => arg 9; simp [Act.put]
      refine wpAnyR_one (i := 9) (by kernel_rfl) rfl (fun K hK => ?_)
      refine step_pushB Try.underlying29 (by kernel_rfl) rfl (.tmp 37) (.tmp 44) rfl (w.heap.size + 2) (by have := HHT.out.two; have := HB7.out.size; have h9 : wr.drew.heap.size = wr.heap.size := rfl; simp only [World.size_alloc]; omega) (.slice oo k oc) k gs (by simp [Act.eval]) L8.own w7.heap.size (by simp [Act.eval]) (.slice ao7 L c7) c8 rfl (by omega) ?_
      intro v9 W9 r9 g9 a9
      obtain ⟨oo9, oc9, rfl⟩ := own_len r9
      obtain ⟨L9, B9⟩ := Lg.push (HLL.out.below DR) HHT.out.two HB7.out HF7.out b8 r9 g9
      have T9 := HT8.out.below B9 (Nat.le_refl _)
      have G9 := S8.past L8.own g9
      have G9' := S8'.past L8.own g9
      obtain ⟨⟨_, _, _, _, d4⟩, fd⟩ := box5L T9.b1
      obtain ⟨⟨_, _, _, _, a4⟩, _⟩ := box5L T9.b0
      have HS9 : W9.cell? ⟨w.heap.size + 1, 4, none⟩ = some (.slice oo k oc) ∧ W9.cell? ⟨w.heap.size, 4, none⟩ = some (.slice (some ⟨b, off, none⟩) n lc) ∧ W9.cell? ⟨b, off + k, none⟩ = some (.slice A L C) := ⟨d4, a4, (World.cell?_of_block (a := ⟨b, off + k, none⟩) (B9.block b (by have := HBW.out; omega))).trans HS8.2.2⟩
      have fd4 := fd 4
      refine hK _ _ ⟨fun _ => HS9, ?_⟩
      clear hK
      conv => arg 9; simp [Act.put]
      refine wpAnyR_one (i := 10) (by kernel_rfl) rfl (fun K hK => ?_)
      go_simp
      refine hK _ _ ⟨fun _ => HS9, ?_⟩
      clear hK
      conv => arg 9; simp [Act.put]
      refine wpAnyR_one (i := 11) (by kernel_rfl) rfl (fun K hK => ?_)
      go_simp
      refine hK _ _ ⟨fun h => absurd h (by decide), ?_⟩
      clear hK
      refine wpAnyR_done (by kernel_rfl) ?_ _
      have T10 := T9.set4 (oo' := oo9) (on' := k + 1) (oc' := oc9)
      have G10 := G9.low (p := w.heap.size + 1) (o := 4) (by omega) (.slice oo9 (k + 1) oc9)
      have G10' := G9'.low (p := w.heap.size + 1) (o := 4) (by omega) (.slice oo9 (k + 1) oc9)
      have L10 := L9.low (p := w.heap.size + 1) (o := 4) (by omega) (.slice oo9 (k + 1) oc9)
      clear HS HS7 HS8 HS9 c8 n8 b8 L7 L8 f7 b7 S8 S8' a9 r9 g9 L9 B9 T9 G9 G9' d4 a4 fd fd4 DR rA HF7 HB7 HT8 HHT HFS HLL
      generalize W9.setCell ⟨w.heap.size + 1, 4, none⟩ (.slice oo9 (k + 1) oc9) = W10 at *
      go_wp2
      go_roundw
      case rel => exact ⟨k + 1, by omega, by go_num, oo9, oc9, _, T10, G10, G10', L10⟩
      case measure => simp [intOf]; omega
    · obtain rfl : n = k := by omega
      have k1 : ¬ ((n : Int) < (n : Int)) := by omega
      have b1 := box_belowL wr (.cells #[.slice none 0 0] 29)
      have b2 := box_belowL (wr.alloc (.cells #[.slice none 0 0] 29)) (.cells #[.slice none 0 0] 29)
      have TB := (HT.below b1 HT.two).below b2 (Nat.le_trans HT.two b1.size)
      have FSB := (FS.below b1 (Nat.le_refl _)).below b2 (Nat.le_refl _)
      have bg := (Boxed.new wr 29 (.slice none 0 0)).alloc (.cells #[.slice none 0 0] 29)
      have bw := Boxed.new (wr.alloc (.cells #[.slice none 0 0] 29)) 29 (.slice none 0 0)
      rw [World.size_alloc] at bw
      have HTB := (show Hid _ from TB)
      have HBG := (show Hid _ from (⟨bg, bw⟩ : _ ∧ _))
      have hsB : ((wr.alloc (.cells #[.slice none 0 0] 29)).alloc (.cells #[.slice none 0 0] 29)).heap.size = wr.heap.size + 2 := by simp
      have HSB := (show Hid _ from hsB)
      have HT2 := (show Hid _ from HT.two)
      obtain ⟨⟨e0, e1, e2, e3, e4⟩, fe⟩ := box5L TB.b1
      have RFS := FSB.rd
      clear HT FS FT LL TB FSB bg bw b1 b2 hsB HHT HFS HLL
      go_wp2_with (go_at_call 20; (with_reducible refine (all_any _ _ _ _ _ RFS).mono ?_); rintro e w4 ⟨B1, B2, cq, cc, rfl, Q4, F4, l1, l2, B4⟩)
      have hW2 := HSB.out
      have G : Gm w w4.heap.size wr.heap.size (wr.heap.size + 1) B1 B2 cq := by
        have h1 := HTB.out.two
        have h2 := B4.size
        have h3 := Q4.size.lt
        have h4 := Q4.list.lt
        exact ⟨⟨by have := HT2.out; omega, by omega⟩, ⟨by have := HT2.out; omega, by omega⟩, by omega, ⟨by omega, by omega⟩, ⟨by omega, by omega⟩, ⟨h3, h4⟩, fun b off e => by
          have := F4.rd
          rcases F4.own.2 with ⟨e2, _⟩ | ⟨g, c9, cur, e2, hg, hh, _⟩
          · cases e2; cases e
          · cases e2
            cases e
            have := (Array.getElem?_eq_some_iff.1 hh).1
            exact ⟨by omega, by omega, by omega⟩⟩
      have st : Al w N so ro lo co1 co2 oo sn sc rn rc n lc c1 c2 n oc w4.heap.size wr.heap.size (wr.heap.size + 1) B1 B2 cq cc S 0 0 none none 0 0 [] [] w4 := ⟨HTB.out.below B4 HTB.out.two, Q4, HBG.out.1.kept (grownL B4) (by simp), HBG.out.2.kept (grownL B4) (by simp), Lg.nil _ _ _, Lg.nil _ _ _, fun g e => (by cases e), Nat.le_refl _⟩
      have HST := (show Hid _ from st)
      have HG := (show Hid _ from G)
      have hB4 : wr.heap.size + 2 ≤ w4.heap.size := by have := B4.size; omega
      have HW4 := (show Hid _ from hB4)
      clear st G B4 Q4 F4 l1 l2 e0 e1 e2 e3 e4 fe hW2 HTB HBG hB4 RFS
      refine (wpIn_wide (n := 9)).1 ?_
      refine range_over (gf := 34) (lb := #[.pointer (some ⟨B1, 0, none⟩), .pointer (some ⟨B2, 0, none⟩)]) rfl (enters_of Try.func34 (by kernel_rfl) rfl) (fun W => ∃ k go mo gc mc gs ms, k ≤ 40 ∧ Al w N so ro lo co1 co2 oo sn sc rn rc n lc c1 c2 n oc w4.heap.size wr.heap.size (wr.heap.size + 1) B1 B2 cq cc S k k go mo gc mc gs ms W) (fun c W => c = .exit 3 ∧ ∃ k go mo gc mc gs ms, k ≤ 40 ∧ Al w N so ro lo co1 co2 oo sn sc rn rc n lc c1 c2 n oc w4.heap.size wr.heap.size (wr.heap.size + 1) B1 B2 cq cc S k k go mo gc mc gs ms W) ?it ?done ?stop
      case done =>
        rintro W hD ⟨k, go, mo, gc, mc, gs, ms, hk, hI⟩
        have cg := hI.gb.cell
        have cw := hI.wb.cell
        have hDl : w4.heap.size < W.heap.size := (Array.getElem?_eq_some_iff.1 hD).1
        have HI := (show Hid _ from hI.below (Below.refl _ W).drew)
        have HD : Hid (W.drew.heap[w4.heap.size]? = some (.deferred (some []))) := hD
        have cgd : W.drew.cell? ⟨wr.heap.size, 0, none⟩ = some (.slice go k gc) := cg
        have cwd : W.drew.cell? ⟨wr.heap.size + 1, 0, none⟩ = some (.slice mo k mc) := cw
        clear hI hD cg cw
        go_upto_region 33 with fail
        go_region_held3 (fun V => V.cell? ⟨wr.heap.size, 0, none⟩ = some (.slice go k gc) ∧ V.cell? ⟨wr.heap.size + 1, 0, none⟩ = some (.slice mo k mc)) (first | assumption | exact ⟨cgd, cwd⟩) (fail)
        go_wp2
        refine ⟨by simp, .inl ⟨_, _, rfl, run_takeDeferred HD.out, ?_⟩⟩
        refine ⟨.tuple #[.slice go k gc, .slice mo k mc, .bool true], ?_, _, _, _, _, _, _, _, _, rfl, HI.out.ans (by have := HG.out.g; omega) HD.out (by have := HT2.out; have := HW4.out; omega) hk⟩
        simp [results, Try.f7, go_sem]
      case stop =>
        rintro c W hD ⟨rfl, k, go, mo, gc, mc, gs, ms, hk, hI⟩
        refine wpIn_wide.2 ?_
        have cg := hI.gb.cell
        have cw := hI.wb.cell
        have hDl : w4.heap.size < W.heap.size := (Array.getElem?_eq_some_iff.1 hD).1
        have HI := (show Hid _ from hI.below (Below.refl _ W).drew)
        have HD : Hid (W.drew.heap[w4.heap.size]? = some (.deferred (some []))) := hD
        have cgd : W.drew.cell? ⟨wr.heap.size, 0, none⟩ = some (.slice go k gc) := cg
        have cwd : W.drew.cell? ⟨wr.heap.size + 1, 0, none⟩ = some (.slice mo k mc) := cw
        clear hI hD cg cw
        go_upto_region 33 with fail
        go_region_held3 (fun V => V.cell? ⟨wr.heap.size, 0, none⟩ = some (.slice go k gc) ∧ V.cell? ⟨wr.heap.size + 1, 0, none⟩ = some (.slice mo k mc)) (first | assumption | exact ⟨cgd, cwd⟩) (fail)
        go_wp2
        refine ⟨by simp, .inl ⟨_, _, rfl, run_takeDeferred HD.out, ?_⟩⟩
        refine ⟨.tuple #[.slice go k gc, .slice mo k mc, .bool true], ?_, _, _, _, _, _, _, _, _, rfl, HI.out.ans (by have := HG.out.g; omega) HD.out (by have := HT2.out; have := HW4.out; omega) hk⟩
        simp [results, Try.f7, go_sem]
      case it =>
        intro L l W eT eP eA eB eO el hr hb hs
        have hl1 : w4.heap.size + 1 ≤ l := by omega
        have ho1 : w4.heap.size ≤ L.own := by omega
        have st1 := HST.out.below hb
        have hlw : w.heap.size + 2 ≤ l := by have := HT2.out; have := HW4.out; omega
        clear el hs hb eO
        refine (all1_brk 8 l B1 B2 (by omega) cq sn cc S (fun k W => L.is .ready none l W ∧ k < 40 ∧ ∃ go mo gc mc gs ms, Al w N so ro lo co1 co2 oo sn sc rn rc n lc c1 c2 n oc w4.heap.size wr.heap.size (wr.heap.size + 1) B1 B2 cq cc S k k go mo gc mc gs ms W) (fun W => ∃ c, L.is .done (some c) l W ∧ c = .exit 3 ∧ ∃ k go mo gc mc gs ms, k ≤ 40 ∧ Al w N so ro lo co1 co2 oo sn sc rn rc n lc c1 c2 n oc w4.heap.size wr.heap.size (wr.heap.size + 1) B1 B2 cq cc S k k go mo gc mc gs ms W) ?hJ ?hJb ?hY W ⟨hr, by omega, _, _, _, _, _, _, st1⟩).mono ?_
        case hJ =>
          rintro k W ⟨_, _, _, _, _, _, _, _, h⟩
          exact h.sq
        case hJb =>
          rintro k W W' ⟨h1, h2, go, mo, gc, mc, gs, ms, h⟩ hb
          exact ⟨h1.below hb (Nat.le_refl _), h2, go, mo, gc, mc, gs, ms, h.below hb⟩
        case hY =>
          rintro k W0 W1 ao c' hk h0 - hb01 ⟨hr0, hk40, go, mo, gc, mc, gs, ms, hi0⟩ hf
          have hr1 := hr0.below hb01 (Nat.le_refl _)
          have hi1 := hi0.below hb01
          have lt1 := hi0.got.lt
          have lt2 := hi0.want.lt
          have hM := hi0.sz
          have e0 := at_in h0 (show (0 : Int) ≤ (k : Nat) by omega) hk
          have hpb := pr_le h0
          have s01 := hb01.size
          clear hr st1 W hr0 hi0 hb01
          refine YieldAt.mono (yield_round (K := fun V => k + 1 < 40 ∧ ∃ go mo gc mc gs ms, Al w N so ro lo co1 co2 oo sn sc rn rc n lc c1 c2 n oc w4.heap.size wr.heap.size (wr.heap.size + 1) B1 B2 cq cc S (k + 1) (k + 1) go mo gc mc gs ms V) (X := fun c V => c = .exit 3 ∧ ∃ k go mo gc mc gs ms, k ≤ 40 ∧ Al w N so ro lo co1 co2 oo sn sc rn rc n lc c1 c2 n oc w4.heap.size wr.heap.size (wr.heap.size + 1) B1 B2 cq cc S k k go mo gc mc gs ms V) eT eP eA eB hr1 rfl ?_) ?_
          · clear eT eP eA eB
            gi_wp2
            refine ⟨hr1, fun W2 hr2 hg2 => ?_⟩
            have hi2 := hi1.keptL hg2 hr1.1 hlw
            have hf2 := hf.keptL hg2 hr1.1
            have s12 := hg2.size
            clear hg2 hi1 hr1 hf
            obtain ⟨⟨a0, a1, a2, a3, a4⟩, fa⟩ := box5L hi2.two.b0
            have hS2 := hS.below hi2.two.bel (Nat.le_refl _)
            have cAt := refAt_any so sn sc S (k : Nat) W2 hS2 (by omega) (by omega)
            rw [e0.1, e0.2] at cAt
            have HM := (show Hid _ from hM)
            have HS := (show Hid _ from (⟨s01, s12⟩ : _ ∧ _))
            have HLT := (show Hid _ from (⟨lt1, lt2⟩ : _ ∧ _))
            have HL1 := (show Hid _ from (⟨hl1, ho1⟩ : _ ∧ _))
            have HI2 := (show Hid _ from hi2)
            have HR2 : Hid (L.is .busy none l W2) := hr2
            have HF2 := (show Hid _ from hf2)
            clear hi2 hr2 hf2 lt1 lt2 hM s01 s12 e0 hl1 ho1
            gi_wp2_with (first
              | (refine ⟨trivial, ?_⟩; gi_at_call 21; refine (CallsIn.inRound l (callsIn_wide.2 cAt)).mono ?_; rintro e w5 ⟨co5, k5, c5, rfl, f5, b5⟩; have hi5 := HI2.out.below b5; have hr5 := HR2.out.below b5 (Nat.le_refl _); have hf5 := HF2.out.below b5 (Nat.le_refl _); have cg5 := hi5.gb.cell; have bA5 := box_belowL w5 (.cells #[.slice ao sn c'] 28); have o5 := (hi5.got.below bA5).own; have c5A : (w5.alloc (.cells #[.slice ao sn c'] 28)).cell? ⟨w5.heap.size, 0, none⟩ = some (.slice ao sn c') := (cell_of_row _ _ 0 _ 28 (0, 0) (allocNewL w5 (.cells #[.slice ao sn c'] 28))).trans rfl; have HI5 := (show Hid _ from hi5); have HR5 : Hid (L.is .busy none l w5) := hr5; have HF5 := (show Hid _ from (⟨hf5, f5⟩ : _ ∧ _)); clear hi5 hr5 hf5 f5)
              | (gi_at_builtin; refine wpListIn_push Try.underlying29 info25L rfl (.tmp 145) (.tmp 147) rfl w4.heap.size (by have := HI5.out.sz; simp only [World.size_alloc]; omega) go k gc gs rfl o5 _ rfl (.slice ao sn c') c5A rfl (by omega) ?_; intro go' gc' w6 r6 g6 p6; obtain ⟨hi6, gb6⟩ := HI5.out.pushG HG.out HLT.out.1 HM.out HF5.out.1 bA5 r6 g6 p6; have cg6 := gb6.cell; have zg6 := gb6.frozen; have f6 : Fr (w6.setCell ⟨wr.heap.size, 0, none⟩ (.slice go' (k + 1) gc')) W2.heap.size co5 k5 c5 (digs S k) := HF5.out.2.pastL (by have := HM.out; have := HS.out; have := HG.out.g; omega) bA5 o5 g6; have hr6 : L.is .busy none l (w6.setCell ⟨wr.heap.size, 0, none⟩ (.slice go' (k + 1) gc')) := (Lp.past (HR5.out.below bA5 (Nat.le_refl _)) o5 g6).kept (grownBy_setCell' w6 _ _) (some_ne (by have := HL1.out; have := HG.out.g; omega)) (some_ne (by have := HL1.out; have := HG.out.g; omega)); have cw6 := hi6.wb.cell; have HI6 := (show Hid _ from hi6); have HR6 : Hid (L.is .busy none l (w6.setCell ⟨wr.heap.size, 0, none⟩ (.slice go' (k + 1) gc'))) := hr6; have HF6 := (show Hid _ from f6); have bA6 := box_belowL (w6.setCell ⟨wr.heap.size, 0, none⟩ (.slice go' (k + 1) gc')) (.cells #[.slice co5 k5 c5] 28); have o6 := (hi6.want.below bA6).own; have n6A := allocNewL (w6.setCell ⟨wr.heap.size, 0, none⟩ (.slice go' (k + 1) gc')) (.cells #[.slice co5 k5 c5] 28); rw [World.size_setCell] at n6A; have c6A : ((w6.setCell ⟨wr.heap.size, 0, none⟩ (.slice go' (k + 1) gc')).alloc (.cells #[.slice co5 k5 c5] 28)).cell? ⟨w6.heap.size, 0, none⟩ = some (.slice co5 k5 c5) := (cell_of_row _ _ 0 _ 28 (0, 0) n6A).trans rfl; clear n6A; clear hi6 hr6 f6 cg5 o5 c5A r6 g6 p6 bA5)
              | (gi_at_builtin; refine wpListIn_push Try.underlying29 info25L rfl (.tmp 149) (.tmp 151) rfl w4.heap.size (by have := HI6.out.sz; simp only [World.size_alloc, World.size_setCell] at *; omega) mo k mc ms rfl o6 _ rfl (.slice co5 k5 c5) c6A rfl (by omega) ?_; intro mo' mc' w7 r7 g7 p7; obtain ⟨hi7, wb7⟩ := HI6.out.pushW HG.out (fun j v g h1 h2 => Nat.lt_of_lt_of_le (HLT.out.2 j v g h1 h2) (Nat.le_trans HS.out.1 HS.out.2)) (Nat.le_trans HM.out (Nat.le_trans HS.out.1 HS.out.2)) HF6.out bA6 r7 g7 p7; have cw7 := wb7.cell; have zw7 := wb7.frozen; have hr7 : L.is .busy none l (w7.setCell ⟨wr.heap.size + 1, 0, none⟩ (.slice mo' (k + 1) mc')) := (Lp.past (HR6.out.below bA6 (Nat.le_refl _)) o6 g7).kept (grownBy_setCell' w7 _ _) (some_ne (by have := HL1.out; have := HG.out.v; omega)) (some_ne (by have := HL1.out; have := HG.out.v; omega)); have cg7 := hi7.gb.cell; obtain ⟨⟨d0, d1, d2, d3, d4⟩, fd⟩ := box5L hi7.two.b1; have HI7 := (show Hid _ from hi7); have HR7 : Hid (L.is .busy none l (w7.setCell ⟨wr.heap.size + 1, 0, none⟩ (.slice mo' (k + 1) mc'))) := hr7; clear hi7 hr7 cw6 o6 c6A r7 g7 p7 bA6))
            all_goals first
              | exact ⟨HR7.out, fun W' hg => ⟨by omega, _, _, _, _, _, _, HI7.out.keptL hg HR7.out.1 hlw⟩⟩
              | exact ⟨HR7.out, fun W' hg => ⟨rfl, k + 1, _, _, _, _, _, _, by omega, HI7.out.keptL hg HR7.out.1 hlw⟩⟩
          · rintro e V (⟨rfl, h1, h2, h3⟩ | ⟨rfl, c, h1, h2, h3⟩)
            · exact .inl ⟨rfl, h1, h2, h3⟩
            · exact .inr ⟨rfl, c, h1, h2, h3⟩
        · rintro e W1 ⟨hv, ⟨k, hr1, hk, go, mo, gc, mc, gs, ms, hi⟩ | ⟨c, hd, rfl, k, go, mo, gc, mc, gs, ms, hk, hi⟩⟩
          · exact ⟨hv, .inl ⟨hr1, fun W2 hg => ⟨k, go, mo, gc, mc, gs, ms, by omega, hi.keptL hg hr1.1 hlw⟩⟩⟩
          · exact ⟨hv, .inr ⟨_, hd, fun W2 hg => ⟨rfl, k, go, mo, gc, mc, gs, ms, hk, hi.keptL hg hd.1 hlw⟩⟩⟩
end Go.Proofs.Ytdeglhifemmknaa
