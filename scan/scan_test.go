package scan_test

import (
	"errors"
	"math"
	"slices"
	"strconv"
	"strings"
	"testing"
	"unsafe"

	"palimpsest/api"
	"palimpsest/scan"
)

// The calls must have just these signatures: the layers above are built on them.
var (
	_ func(text string) ([]api.Token, error) = scan.Tokens
	_ func(s string) bool                    = scan.Word
	_ func(s string) bool                    = scan.Keyword
)

const greatest = "9223372036854775807"

func keywords() []string {
	return []string{"op", "need", "let", "if", "else", "for", "in", "give", "true", "false"}
}

func signs() []string {
	return []string{"(", ")", "{", "}", "[", "]", ",", ";", "+", "-", "*", "/", "%", "!", "<", ">", "=",
		"+=", "-=", "<>", "<=", ">=", "==", "!=", "&&", "||", ".."}
}

// name, number, sign and end are tokens at a place.
func name(text string, at int) api.Token   { return api.Token{Kind: api.TName, Text: text, At: at} }
func number(text string, at int) api.Token { return api.Token{Kind: api.TNumber, Text: text, At: at} }
func sign(text string, at int) api.Token   { return api.Token{Kind: api.TSign, Text: text, At: at} }
func end(at int) api.Token                 { return api.Token{Kind: api.TEnd, At: at} }

// short is a text as a failed test tells it.
func short(text string) string {
	return strconv.Quote(text[:min(len(text), 60)])
}

// tokens holds a text's tokens against those that are wanted.
func tokens(t *testing.T, text string, want ...api.Token) {
	t.Helper()
	got, err := scan.Tokens(text)
	if err != nil || !slices.Equal(got, want) {
		t.Errorf("%s: %v, %v, want %v", short(text), got, err, want)
	}
}

// texts holds the texts of a text's tokens, but for the end, against those that are wanted.
func texts(t *testing.T, text string, want ...string) {
	t.Helper()
	got, err := scan.Tokens(text)
	if err != nil || len(got) == 0 {
		t.Errorf("%s: %v, %v, want %q", short(text), got, err, want)
		return
	}
	var l []string
	for _, x := range got[:len(got)-1] {
		l = append(l, x.Text)
	}
	if !slices.Equal(l, want) || got[len(got)-1] != end(len(text)) {
		t.Errorf("%s: %q and %v, want %q", short(text), l, got[len(got)-1], want)
	}
}

// refused tells of a text that isn't refused with this fault, and with nothing beside it.
func refused(t *testing.T, text string, code api.Errno, at int) {
	t.Helper()
	got, err := scan.Tokens(text)
	f, ok := err.(*api.Fault)
	if len(got) != 0 || !ok || f == nil || *f != (api.Fault{Code: code, At: at}) {
		t.Errorf("%s: %v, %v, want %v at %d", short(text), got, err, code, at)
	}
}

// P6.1: ordinary texts

func TestExamples(t *testing.T) {
	tokens(t, "x+=10;", name("x", 0), sign("+=", 1), number("10", 3), sign(";", 5), end(6))
	tokens(t, "a..b", name("a", 0), sign("..", 1), name("b", 3), end(4))
	refused(t, "007", api.ErrToken, 0)
	refused(t, "a & b", api.ErrToken, 2)
}

func TestAnOperation(t *testing.T) {
	texts(t, "op add(i, v) { need i < 60 && v >= -1; # adds\n\tfor k in 0..7 { [i+k] += v*2; }\n\tgive [i]; }\n",
		"op", "add", "(", "i", ",", "v", ")", "{", "need", "i", "<", "60", "&&", "v", ">=", "-", "1", ";",
		"for", "k", "in", "0", "..", "7", "{", "[", "i", "+", "k", "]", "+=", "v", "*", "2", ";", "}",
		"give", "[", "i", "]", ";", "}")
	tokens(t, "let\tx_1 =\n!true;", name("let", 0), name("x_1", 4), sign("=", 8), sign("!", 10), name("true", 11), sign(";", 15), end(16))
}

func TestBlanksAndRemarks(t *testing.T) {
	tokens(t, "", end(0))
	tokens(t, " ", end(1))
	tokens(t, " \t\n\n\t ", end(6))
	tokens(t, "#", end(1))
	tokens(t, "#\n", end(2))
	tokens(t, "# a remark", end(10))
	tokens(t, "##\n#x\n", end(6))
	tokens(t, "  a  ", name("a", 2), end(5))
	tokens(t, "\ta\n\tb\n", name("a", 1), name("b", 4), end(6))
	tokens(t, "a#b", name("a", 0), end(3))
	tokens(t, "a#b\nc", name("a", 0), name("c", 4), end(5))
	tokens(t, "#\n#\n\n # x\na", name("a", 10), end(11))
	tokens(t, "1#2#3\n#4\n5", number("1", 0), number("5", 9), end(10))
	tokens(t, "# & | . 007 \x00\r\xff\xc3\xa9 "+strings.Repeat("a", 20)+"\n;", sign(";", 39), end(40))
	tokens(t, "+#\n= &&#&", sign("+", 0), sign("=", 3), sign("&&", 5), end(9))
	tokens(t, "a b\tc\nd", name("a", 0), name("b", 2), name("c", 4), name("d", 6), end(7))
}

func TestNames(t *testing.T) {
	for _, s := range []string{"a", "z", "A", "Z", "m", "a0", "a9", "a_", "a_b", "Z_9_", "aB0", "a__", "x_1"} {
		tokens(t, s, name(s, 0), end(len(s)))
		tokens(t, " "+s+";", name(s, 1), sign(";", len(s)+1), end(len(s)+2))
	}
	for n := 1; n <= 16; n++ {
		for _, s := range []string{strings.Repeat("a", n), "Q" + strings.Repeat("9", n-1), "b" + strings.Repeat("_", n-1)} {
			tokens(t, s, name(s, 0), end(n))
			tokens(t, s+"+"+s, name(s, 0), sign("+", n), name(s, n+1), end(2*n+1))
		}
	}
	for _, n := range []int{17, 18, 32, 33, 255, 256, 478} {
		for _, s := range []string{strings.Repeat("a", n), "Q" + strings.Repeat("9", n-1), "b" + strings.Repeat("_", n-1), strings.Repeat("a", n-1) + "_"} {
			refused(t, s, api.ErrToken, 0)
			refused(t, ";\n"+s, api.ErrToken, 2)
		}
	}
	refused(t, "_", api.ErrToken, 0)
	refused(t, "_a", api.ErrToken, 0)
	refused(t, "a _a", api.ErrToken, 2)
	refused(t, strings.Repeat("a", 16)+"\xc3\xa9", api.ErrToken, 16)
}

func TestNumbers(t *testing.T) {
	for _, s := range []string{"0", "1", "9", "10", "60", "100", "1234567890", "999999999999999999", "1000000000000000000",
		"2147483648", "4294967296", "9007199254740993", "9223372036854775799", "9223372036854775806", greatest} {
		tokens(t, s, number(s, 0), end(len(s)))
		tokens(t, "-"+s+"+", sign("-", 0), number(s, 1), sign("+", len(s)+1), end(len(s)+2))
	}
	for _, s := range []string{"9223372036854775808", "9223372036854775810", "9223372036854775900", "9999999999999999999", "10000000000000000000",
		"18446744073709551615", "18446744073709551616", "18446744073709551617", "92233720368547758070", "1" + strings.Repeat("0", 400),
		"00", "01", "007", "00000000000000000000", "09", "0" + greatest} {
		refused(t, s, api.ErrToken, 0)
		refused(t, "a = "+s+";", api.ErrToken, 4)
	}
	tokens(t, "0 0", number("0", 0), number("0", 2), end(3))
	tokens(t, "12a", number("12", 0), name("a", 2), end(3))
	tokens(t, "0x1f", number("0", 0), name("x1f", 1), end(4))
	tokens(t, "1e9", number("1", 0), name("e9", 1), end(3))
	tokens(t, "0..65", number("0", 0), sign("..", 1), number("65", 3), end(5))
	refused(t, "1_000", api.ErrToken, 1)
	refused(t, "1.5", api.ErrToken, 1)
	refused(t, "0.", api.ErrToken, 1)
}

func TestSigns(t *testing.T) {
	for _, s := range signs() {
		tokens(t, s, sign(s, 0), end(len(s)))
		tokens(t, "a"+s+"1", name("a", 0), sign(s, 1), number("1", len(s)+1), end(len(s)+2))
		tokens(t, s+" "+s, sign(s, 0), sign(s, len(s)+1), end(2*len(s)+1))
	}
}

func TestSignsSideBySide(t *testing.T) {
	texts(t, "===", "==", "=")
	texts(t, "====", "==", "==")
	texts(t, "<<>>", "<", "<>", ">")
	texts(t, "<=>", "<=", ">")
	texts(t, "<>=", "<>", "=")
	texts(t, ">==", ">=", "=")
	texts(t, "><", ">", "<")
	texts(t, "=<", "=", "<")
	texts(t, "=>=", "=", ">=")
	texts(t, "!!=", "!", "!=")
	texts(t, "!==", "!=", "=")
	texts(t, "=!=", "=", "!=")
	texts(t, "+++=", "+", "+", "+=")
	texts(t, "-=-", "-=", "-")
	texts(t, "+==", "+=", "=")
	texts(t, "*=/=%=", "*", "=", "/", "=", "%", "=")
	texts(t, "&&&&", "&&", "&&")
	texts(t, "||||", "||", "||")
	texts(t, "....", "..", "..")
	texts(t, "([{}]),;", "(", "[", "{", "}", "]", ")", ",", ";")
	texts(t, "< > < = + = ! = - =", "<", ">", "<", "=", "+", "=", "!", "=", "-", "=")
	refused(t, "&&&", api.ErrToken, 2)
	refused(t, "|||", api.ErrToken, 2)
	refused(t, "...", api.ErrToken, 2)
	refused(t, "& &", api.ErrToken, 0)
	refused(t, "a|\n|b", api.ErrToken, 1)
	refused(t, ". .", api.ErrToken, 0)
	refused(t, "&|", api.ErrToken, 0)
	refused(t, "&=", api.ErrToken, 0)
	refused(t, ".&", api.ErrToken, 0)
}

func TestKeywordsAreNames(t *testing.T) {
	at := 0
	var all strings.Builder
	var want []api.Token
	for _, s := range keywords() {
		tokens(t, s, name(s, 0), end(len(s)))
		tokens(t, s+"s", name(s+"s", 0), end(len(s)+1))
		tokens(t, s+"_1;", name(s+"_1", 0), sign(";", len(s)+2), end(len(s)+3))
		want = append(want, name(s, at))
		all.WriteString(s + "\n")
		at += len(s) + 1
	}
	tokens(t, all.String(), append(want, end(at))...)
}

// P6.1: wrong texts

func TestTooLong(t *testing.T) {
	for _, part := range []string{" ", "\n", "#", ";", "a b ", "12+", "&&", ".."} {
		text := strings.Repeat(part, 480)[:480]
		got, err := scan.Tokens(text)
		if err != nil || len(got) == 0 || got[len(got)-1] != end(480) {
			t.Errorf("480 bytes of %q: %v, %v", part, got, err)
		}
		refused(t, text+part[:1], api.ErrForm, 0)
		refused(t, strings.Repeat(text, 1000), api.ErrForm, 0)
	}
	for _, part := range []string{"& ", ". ", "|&", "\x00", "\xff", "é", "_", "0", "a"} {
		refused(t, strings.Repeat(part, 480)[:480], api.ErrToken, 0)
		refused(t, strings.Repeat(part, 481)[:481], api.ErrForm, 0)
	}
	refused(t, strings.Repeat(" ", 479)+"&", api.ErrToken, 479)
	refused(t, strings.Repeat(" ", 480)+"&", api.ErrForm, 0)
	refused(t, "#"+strings.Repeat("é", 240), api.ErrForm, 0)
}

func TestBytesThatBeginNoToken(t *testing.T) {
	good := "abcdefghijklmnopqrstuvwxyzABCDEFGHIJKLMNOPQRSTUVWXYZ0123456789(){}[],;+-*/%!<>=# \t\n"
	for c := range 256 {
		s := string([]byte{byte(c)})
		if strings.Contains(good, s) {
			if _, err := scan.Tokens(s); err != nil {
				t.Errorf("%q: %v", s, err)
			}
			continue
		}
		refused(t, s, api.ErrToken, 0)
		refused(t, " "+s, api.ErrToken, 1)
		refused(t, "#\n\ta "+s+" b", api.ErrToken, 5)
		if s != "_" {
			refused(t, "ab"+s, api.ErrToken, 2)
		}
		tokens(t, "#"+s, end(2))
		tokens(t, "a#"+s+s+"\nb", name("a", 0), name("b", 5), end(6))
	}
	refused(t, "a é", api.ErrToken, 2)
	refused(t, "\r\n", api.ErrToken, 0)
	refused(t, "a\u00a0b", api.ErrToken, 1)
	refused(t, "１", api.ErrToken, 0)
	refused(t, "\u0430", api.ErrToken, 0)
}

func TestTheFirstFaultIsTold(t *testing.T) {
	long := strings.Repeat("a", 17)
	faults := []string{"&", "|", ".", "_", "007", "9223372036854775808", long, "\xff", "$", "é"}
	for _, one := range faults {
		for _, two := range faults {
			refused(t, one+" "+two, api.ErrToken, 0)
			refused(t, "a; "+one+" + "+two, api.ErrToken, 3)
			refused(t, "# "+two+"\n"+one+"\t"+two, api.ErrToken, len(two)+3)
			refused(t, one+strings.Repeat(" ", 480)+two, api.ErrForm, 0)
		}
	}
}

// P6.1: Word and Keyword

func TestWord(t *testing.T) {
	for _, s := range append(keywords(), "a", "Z", "x_1", "a_", "A9", "b__", strings.Repeat("a", 15), strings.Repeat("Z", 16), "a"+strings.Repeat("_", 15), "q"+strings.Repeat("0", 15)) {
		if !scan.Word(s) {
			t.Errorf("%q is no word", s)
		}
	}
	for _, s := range []string{"", "_", "_x", "1", "1a", "0", "9a", "a b", " a", "a ", "a\n", "a#", "#a", "a;", "+", "..", "a.b", "a-b", "a\x00", "é", "aé", "a\xff",
		strings.Repeat("a", 17), strings.Repeat("a", 16) + "_", strings.Repeat("a", 32), strings.Repeat("a", 1<<20), strings.Repeat("a", 256+1), strings.Repeat(" ", 1<<20)} {
		if scan.Word(s) {
			t.Errorf("%s is a word", short(s))
		}
	}
}

func TestWordOfEachByte(t *testing.T) {
	for c := range 256 {
		b := byte(c)
		letter := b >= 'a' && b <= 'z' || b >= 'A' && b <= 'Z'
		behind := letter || b >= '0' && b <= '9' || b == '_'
		if got := scan.Word(string([]byte{b})); got != letter {
			t.Errorf("Word of byte %d: %v", c, got)
		}
		for _, s := range [][]byte{{'a', b}, {'a', b, 'a'}, {'Z', '_', b}} {
			if got := scan.Word(string(s)); got != behind {
				t.Errorf("Word of %q: %v", s, got)
			}
		}
	}
}

func TestKeyword(t *testing.T) {
	for _, s := range keywords() {
		if !scan.Keyword(s) {
			t.Errorf("%q is no keyword", s)
		}
		for _, no := range []string{strings.ToUpper(s), strings.ToUpper(s[:1]) + s[1:], s + "s", s + " ", " " + s, s + "\x00", s[1:], s[:len(s)-1], s + s, s + "_"} {
			if scan.Keyword(no) {
				t.Errorf("%q is a keyword", no)
			}
		}
	}
	for _, s := range []string{"", "a", "while", "and", "or", "not", "return", "null", "do", "to", "on", "opneed", "op need", "+", "0", "\xff", strings.Repeat("op", 1<<20)} {
		if scan.Keyword(s) {
			t.Errorf("%s is a keyword", short(s))
		}
	}
}

// P6.3: what is handed in, and answers

func TestWhatIsHandedInStays(t *testing.T) {
	const text = "op a1(i) { [i] += 10; } # x\n"
	b := []byte(text)
	got, err := scan.Tokens(unsafe.String(&b[0], len(b)))
	word, keyword := scan.Word(unsafe.String(&b[3], 2)), scan.Keyword(unsafe.String(&b[0], 2))
	if err != nil || !word || !keyword || string(b) != text {
		t.Errorf("%v, %v, %v, text %q", err, word, keyword, b)
	}
	clear(b)
	want, _ := scan.Tokens(text)
	if !slices.Equal(got, want) {
		t.Errorf("tokens hang on a text that was written over: %v", got)
	}
}

func TestAnswersAreNewMemory(t *testing.T) {
	const text = "a+=10; b"
	one, _ := scan.Tokens(text)
	two, _ := scan.Tokens(text)
	want := slices.Clone(two)
	clear(one[:cap(one)])
	if !slices.Equal(two, want) {
		t.Error("two lists of tokens share memory")
	}
	tokens(t, text, want...)
	for _, wrong := range []string{"a &", strings.Repeat("a", 481)} {
		var left, right *api.Fault
		_, err := scan.Tokens(wrong)
		_, again := scan.Tokens(wrong)
		if !errors.As(err, &left) || !errors.As(again, &right) {
			t.Fatal(err, again)
		}
		kept := *right
		*left = api.Fault{Code: api.ErrRange, At: math.MaxInt}
		if *right != kept {
			t.Error("two faults share memory")
		}
		refused(t, wrong, kept.Code, kept.At)
	}
}
