package scan_test

import (
	"math/big"
	"regexp"
	"slices"
	"strings"
	"testing"

	"palimpsest/api"
	"palimpsest/scan"
)

// The chapter's forms as patterns: a second reading of it that has nothing in common with the first one.
var (
	between = regexp.MustCompile(`^([ \t\n]|#[^\n]*)*`)
	forms   = []struct {
		kind    int
		pattern *regexp.Regexp
	}{
		{api.TName, regexp.MustCompile(`^[a-zA-Z][a-zA-Z0-9_]*`)},
		{api.TNumber, regexp.MustCompile(`^[0-9]+`)},
		{api.TSign, regexp.MustCompile(`^(\+=|-=|<>|<=|>=|==|!=|&&|\|\||\.\.|[(){}\[\],;+*/%!<>=-])`)},
	}
)

// isWhole tells whether a token is within its limits.
func isWhole(kind int, s string) bool {
	if kind == api.TName {
		return len(s) <= 16
	}
	n, ok := new(big.Int).SetString(s, 10)
	return kind != api.TNumber || ok && n.IsInt64() && n.String() == s
}

// longest is the token that a text begins with, its text empty if there is none.
func longest(text string) api.Token {
	for _, f := range forms {
		if s := f.pattern.FindString(text); s != "" && isWhole(f.kind, s) {
			return api.Token{Kind: f.kind, Text: s}
		}
	}
	return api.Token{}
}

// model is what Tokens must answer.
func model(text string) ([]api.Token, *api.Fault) {
	if len(text) > 480 {
		return nil, &api.Fault{Code: api.ErrForm}
	}
	var l []api.Token
	for at := len(between.FindString(text)); at < len(text); at += len(between.FindString(text[at:])) {
		x := longest(text[at:])
		if x.Text == "" {
			return nil, &api.Fault{Code: api.ErrToken, At: at}
		}
		x.At = at
		l = append(l, x)
		at += len(x.Text)
	}
	return append(l, end(len(text))), nil
}

// held holds what a text answers against the model, and tells whether the text is refused.
func held(t *testing.T, text string) bool {
	t.Helper()
	want, fault := model(text)
	if fault != nil {
		refused(t, text, fault.Code, fault.At)
		return true
	}
	tokens(t, text, want...)
	return false
}

// placed holds P6.2 for a text that isn't refused.
func placed(t *testing.T, text string) {
	t.Helper()
	l, err := scan.Tokens(text)
	if err != nil || len(l) == 0 {
		t.Errorf("%s: %v, %v", short(text), l, err)
		return
	}
	at := 0
	var joined []string
	for _, x := range l {
		if x.At < at || !strings.HasPrefix(text[x.At:], x.Text) || between.FindString(text[at:x.At]) != text[at:x.At] {
			t.Errorf("%s: %v doesn't stand behind %d", short(text), x, at)
		}
		at = x.At + len(x.Text)
		joined = append(joined, x.Text)
	}
	if at != len(text) || l[len(l)-1].Kind != api.TEnd {
		t.Errorf("%s: the last token is %v", short(text), l[len(l)-1])
	}
	again, err := scan.Tokens(strings.Join(joined, " "))
	if err != nil || !slices.EqualFunc(again, l, alike) {
		t.Errorf("%s: %v, joined by blanks %v, %v", short(text), l, again, err)
	}
}

// alike tells whether two tokens are the same but for their places.
func alike(a, b api.Token) bool {
	return a.Kind == b.Kind && a.Text == b.Text
}

// looked holds a text against the model, and tells whether it is good; if it is, P6.2 must hold for it, too. (Of more than 240
// bytes it may have tokens that are too long a text when they are joined.)
func looked(t *testing.T, text string) bool {
	t.Helper()
	if held(t, text) {
		return false
	}
	if len(text) <= 240 {
		placed(t, text)
	}
	return true
}

// P6.1, P6.2: all short texts

func TestAllTextsOfTwoBytes(t *testing.T) {
	for one := range 256 {
		looked(t, string([]byte{byte(one)}))
		for two := range 256 {
			looked(t, string([]byte{byte(one), byte(two)}))
			looked(t, string([]byte{'a', byte(one), byte(two), '1'}))
		}
	}
}

func TestAllShortTexts(t *testing.T) {
	parts := []byte("aZ01_ \t\n#+-=<>!&|.;\x80")
	rows := []string{""}
	for range 4 {
		var more []string
		for _, row := range rows {
			for _, c := range parts {
				more = append(more, row+string([]byte{c}))
			}
		}
		for _, text := range more {
			looked(t, text)
		}
		rows = more
	}
}

// P6.1, P6.2: drawn texts

// draw is numbers in a row that looks like chance.
type draw uint64

// next is a number below n.
func (d *draw) next(n int) int {
	*d = *d*6364136223846793005 + 1442695040888963407
	return int(*d>>33) % n
}

// text is so many parts, one behind the other.
func (d *draw) text(parts []string, count int) string {
	var b strings.Builder
	for range count {
		b.WriteString(parts[d.next(len(parts))])
	}
	return b.String()
}

// wholeParts is parts of texts of which most are good.
func wholeParts() []string {
	parts := append(append(keywords(), signs()...), " ", "\t", "\n", " ", "\n", "# é & 007\n", "#\n", "a", "x_1", "Zz9", "opa", "ifs", "10", "60", greatest)
	return append(parts, strings.Repeat("n", 15), " "+strings.Repeat("n", 16)+" ", " 0 ", " 922337203685477580")
}

func TestDrawnTexts(t *testing.T) {
	d := draw(6)
	good := 0
	for range 20000 {
		if looked(t, d.text(wholeParts(), d.next(14))) {
			good++
		}
		held(t, d.text(wholeParts(), 90+d.next(120)))
	}
	if good < 15000 || good == 20000 {
		t.Errorf("%d of 20000 are good", good)
	}
}

func TestDrawnTextsWithFaults(t *testing.T) {
	d := draw(7)
	wrong := append(wholeParts(), "&", "|", ".", "_", "0", "1234567", "\r", "\x00", "é", "\xff", "9223372036854775808", strings.Repeat("n", 17))
	for range 20000 {
		looked(t, d.text(wrong, d.next(10)))
	}
}

func TestJoinedByBlanks(t *testing.T) {
	placed(t, strings.Repeat(";", 240))
	placed(t, strings.Repeat("a+=", 160)[:240])
	placed(t, strings.Repeat("x #&\n", 96))
	placed(t, strings.Repeat("# é\n", 96))
}
