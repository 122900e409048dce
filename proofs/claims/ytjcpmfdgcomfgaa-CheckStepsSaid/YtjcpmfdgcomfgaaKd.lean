/- Layer 8's laws: loops within loops, at all numbers of rounds. No program. -/
import Derived.Test.YtjcpmfdgcomfgaaKa
import Derived.Test.YtjcpmfdgcomfgaaC10
namespace Go.Proofs.Ytjcpmfdgcomfgaa
open Go.RowKit Go.Maps
set_option linter.unusedSimpArgs false
set_option linter.unusedVariables false

def dec2 (a : Nat) : Sec := if a < 10 then [UInt8.ofNat (48 + a)] else [UInt8.ofNat (48 + a / 10), UInt8.ofNat (48 + a % 10)]
theorem decL_two {a : Nat} (h : a < 100) : decL a = dec2 a := by
  unfold dec2
  by_cases h1 : a < 10
  · rw [if_pos h1, decL_small h1]
  · rw [if_neg h1, decL_big h1, decL_small (by omega)]
    rfl
def stA : Sec := [111, 112, 32, 111, 40, 41, 32, 123, 32, 102, 111, 114, 32, 105, 32, 105, 110, 32, 48, 46, 46]
def stB' : Sec := [32, 123, 32, 102, 111, 114, 32, 106, 32, 105, 110, 32, 48, 46, 46]
def stC : Sec := [32, 123, 32, 91, 48, 93, 32, 43, 61, 32, 49, 59, 32, 125, 32, 125, 32, 125]
def tkA (p : Nat) : List Tok := [⟨1, [111, 112], p⟩, ⟨1, [111], p + 3⟩, ⟨3, [40], p + 4⟩, ⟨3, [41], p + 5⟩, ⟨3, [123], p + 7⟩, ⟨1, [102, 111, 114], p + 9⟩, ⟨1, [105], p + 13⟩, ⟨1, [105, 110], p + 15⟩, ⟨2, [48], p + 18⟩, ⟨3, [46, 46], p + 19⟩]
def tkB (p : Nat) : List Tok := [⟨3, [123], p + 1⟩, ⟨1, [102, 111, 114], p + 3⟩, ⟨1, [106], p + 7⟩, ⟨1, [105, 110], p + 9⟩, ⟨2, [48], p + 12⟩, ⟨3, [46, 46], p + 13⟩]
def tkC (p : Nat) : List Tok := [⟨3, [123], p + 1⟩, ⟨3, [91], p + 3⟩, ⟨2, [48], p + 4⟩, ⟨3, [93], p + 5⟩, ⟨3, [43, 61], p + 7⟩, ⟨2, [49], p + 10⟩, ⟨3, [59], p + 11⟩, ⟨3, [125], p + 13⟩, ⟨3, [125], p + 15⟩, ⟨3, [125], p + 17⟩, ⟨4, [], p + 18⟩]
theorem fold_map (x : Except Nat (List Tok)) : ∀ ts : List Tok, ts.foldr (fun t x => x.map (t :: ·)) x = x.map (ts ++ ·)
  | [] => by cases x <;> rfl
  | t :: ts => by
    rw [List.foldr_cons, fold_map x ts]
    cases x <;> rfl
/-- A piece of a text that ends where a token ends, one of z bytes. -/
theorem lexG_seg (k z : Nat) (S : Sec) (hz : z ≤ S.length) (tk : Nat → List Tok)
    (h : ∀ n p r, lexN (n + k) (p + gapN false (S ++ r)) ((S ++ r).drop (gapN false (S ++ r))) = (tk p).foldr (fun t x => x.map (t :: ·)) (lexN n (p + (S.length - z) + z + gapN false r) ((S.drop (S.length - z) ++ r).drop (z + gapN false r)))) (p : Nat) (r : Sec) :
    lexG p (S ++ r) = (lexG (p + S.length) r).map (tk p ++ ·) := by
  have e : (S.drop (S.length - z) ++ r).drop (z + gapN false r) = r.drop (gapN false r) := by
    have hD : (S.drop (S.length - z)).length = z := by rw [List.length_drop]; omega
    generalize S.drop (S.length - z) = D at hD ⊢
    subst hD
    rw [← List.drop_drop, List.drop_left]
  unfold lexG
  rw [lexN_more ((S ++ r).length + 1) ((r.length + 1 + S.length) + k) _ _ (by rw [List.length_drop]; omega) (by rw [List.length_drop, List.length_append]; omega), h, fold_map, e, show p + (S.length - z) + z = p + S.length by omega, lexN_more (r.length + 1 + S.length) (r.length + 1) _ _ (by rw [List.length_drop]; omega) (by rw [List.length_drop]; omega)]
theorem lex_stA (p : Nat) (r : Sec) : lexG p (stA ++ r) = (lexG (p + 21) r).map (tkA p ++ ·) := lexG_seg 10 2 stA (by decide) tkA (fun n p r => by kernel_rfl) p r
theorem lex_stB (p : Nat) (r : Sec) : lexG p (stB' ++ r) = (lexG (p + 15) r).map (tkB p ++ ·) := lexG_seg 6 2 stB' (by decide) tkB (fun n p r => by kernel_rfl) p r
theorem lex_stC (p : Nat) : lexG p stC = .ok (tkC p) := by kernel_rfl
/-- A number ahead of a blank. -/
theorem lexG_num {a : Nat} (ha : a < 100) (p : Nat) (r : Sec) : lexG p (dec2 a ++ 32 :: r) = (lexG (p + (dec2 a).length) (32 :: r)).map (⟨2, dec2 a, p⟩ :: ·) := by
  have hl := lex_dec (u := a) (by omega)
  rw [decL_two ha] at hl
  have hc := lex_chain hl
  unfold Chain at hc
  have hc : dec2 a ≠ [] ∧ firstN (dec2 a) = (2, (dec2 a).length) := by
    rcases hc with ⟨h, _⟩ | ⟨h1, h2, _⟩
    · cases h
    · exact ⟨h1, h2⟩
  have hdig : ∀ c ∈ dec2 a, isDig c = true := by rw [← decL_two ha]; exact decL_dig (a + 1) a (by omega)
  have hf := firstN_app hc.1 hc.2 (c := 32) (by decide) (by decide) (fun d hd => by
    simp only [twos, List.mem_cons, List.not_mem_nil, or_false, List.cons.injEq, and_true] at hd
    rcases hd with e | e | e | e | e | e | e | e | e | e <;> have := e.2 <;> revert this <;> decide) r
  generalize dec2 a = D at hc hdig hf ⊢
  cases D with
  | nil => exact absurd rfl hc.1
  | cons c D =>
    have hcd := dig_not (hdig c (by simp))
    rw [List.cons_append] at hf ⊢
    rw [lexG_step p c _ hcd.2.1 hcd.2.2.1, hf]
    simp only [List.length_cons, Nat.add_one_ne_zero, if_false]
    rw [show (c :: (D ++ 32 :: r)).drop (D.length + 1) = 32 :: r by rw [List.drop_succ_cons, List.drop_left], show (c :: (D ++ 32 :: r)).take (D.length + 1) = c :: D by rw [List.take_succ_cons, List.take_left]]
def txS (a b : Nat) : Sec := (((stA ++ dec2 a) ++ stB') ++ dec2 b) ++ stC
/-- The definition that the text is. -/
def dfS (X Y : Int) (x y : Nat) : Df := ⟨[111], [], [], [.mk 7 [105] [] X [.mk 7 [106] [] Y [.mk 3 [] [.mk 1 0 [] [] ((y + 4 : Nat) : Int), .mk 1 1 [] [] ((y + 10 : Nat) : Int)] 0 [] [] ((y + 3 : Nat) : Int)] [] ((x + 3 : Nat) : Int)] [] 9], []⟩
theorem tokens_steps (X Y : Sec) (x y z : Nat) : parseR (tkA 0 ++ ⟨2, X, 21⟩ :: (tkB x ++ ⟨2, Y, z⟩ :: tkC y)) = .ok (dfS (numW X) (numW Y) x y) := by
  kernel_rfl
theorem numW_dec {a : Nat} (ha : a < 100) : numW (dec2 a) = a := by
  have h1 := decL_val (a + 1) a (by omega)
  have h2 := decL_dig (a + 1) a (by omega)
  rw [decL_two ha] at h1 h2
  have := numW_val (dec2 a) 0 h2 (by omega)
  unfold numW
  rw [show (0 : Int) = ((0 : Nat) : Int) from rfl, this, h1]
theorem dec2_len (a : Nat) : 1 ≤ (dec2 a).length ∧ (dec2 a).length ≤ 2 := by
  unfold dec2
  split <;> simp
theorem parse_steps {a b : Nat} (ha : a < 100) (hb : b < 100) : parseS (txS a b) = .ok (dfS a b (21 + (dec2 a).length) (36 + (dec2 a).length + (dec2 b).length)) := by
  have l1 := dec2_len a
  have l2 := dec2_len b
  have hlen : (txS a b).length = 54 + (dec2 a).length + (dec2 b).length := by
    unfold txS
    simp only [List.length_append]
    rw [show stA.length = 21 from rfl, show stB'.length = 15 from rfl, show stC.length = 18 from rfl]
    omega
  unfold parseS
  rw [if_neg (by omega)]
  have hlex : lex (txS a b) = .ok (tkA 0 ++ ⟨2, dec2 a, 21⟩ :: (tkB (21 + (dec2 a).length) ++ ⟨2, dec2 b, 36 + (dec2 a).length⟩ :: tkC (36 + (dec2 a).length + (dec2 b).length))) := by
    unfold txS
    rw [lex_eq, List.append_assoc, List.append_assoc, List.append_assoc, lex_stA]
    have e1 : stB' ++ (dec2 b ++ stC) = 32 :: (stB'.tail ++ (dec2 b ++ stC)) := rfl
    have e2 : stC = 32 :: stC.tail := rfl
    rw [e1, lexG_num ha, ← e1, lex_stB, e2, lexG_num hb, ← e2, lex_stC]
    rw [show 0 + 21 = 21 from rfl, show 21 + (dec2 a).length + 15 = 36 + (dec2 a).length by omega]
    rfl
  rw [hlex]
  dsimp only
  rw [tokens_steps, numW_dec ha, numW_dec hb]
def okSteps (a b : Nat) : Bool :=
  let y := 36 + (dec2 a).length + (dec2 b).length
  let r := chkD (dfS a b (21 + (dec2 a).length) y)
  (if 64 < a then r.2.1 == 11 && r.2.2 == 9 else if 64 < b then r.2.1 == 11 && decide (9 < r.2.2)
    else if 2048 < 1 + a * (2 + b * 4) then r.2.1 == 11 && r.2.2 == 0
    else r.2.1 == 0 && r.1.steps == 1 + a * (2 + b * 4) && r.1.mode == 2 && r.1.names == 2 && r.1.turns)
theorem steps_all : (List.range 66).all (fun a => (List.range 66).all (okSteps a)) = true := by kernel_rfl
end Go.Proofs.Ytjcpmfdgcomfgaa
