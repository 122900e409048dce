package invert_test

import (
	"math"
	"strings"
	"testing"

	"palimpsest/api"
	"palimpsest/check"
	"palimpsest/eval"
)

const (
	least    = math.MinInt
	greatest = math.MaxInt
)

// edges is numbers near 0, near the cells' ends, and at the ends of 64 bits.
func edges() []int {
	return []int{0, 1, -1, 2, -2, 3, -3, 7, 10, 57, 58, 59, 60, 61, -59, -60, 1 << 31, 1 << 32, 1 << 62, -1 << 62, greatest, greatest - 1, least, least + 1}
}

// counted is a page whose cells are all different, and none 0: cell i has 100 + i.
func counted() api.Page {
	p := api.Page{Lsn: 4}
	for i := range p.Cells {
		p.Cells[i] = 100 + i
	}
	return p
}

// extreme is a page whose cells are at the ends of 64 bits, so that they wrap around.
func extreme() api.Page {
	p := api.Page{Lsn: -1}
	for i := range p.Cells {
		p.Cells[i] = []int{greatest, least, greatest - i, least + i}[i%4]
	}
	return p
}

// ran is what an operation comes to on a page, which it must come to.
func ran(t *testing.T, d api.Def, p api.Page, args ...int) api.Page {
	t.Helper()
	q, _, err := eval.Run(d, p, args...)
	if err != nil {
		t.Fatalf("%q with %v: %v", shown(d), args, err)
	}
	return q
}

// undone runs an operation, where its needs are met, and its turned one behind it, tells if that doesn't come to the page that the
// first one was run on, and answers the page between.
func undone(t *testing.T, d api.Def, p api.Page, args ...int) api.Page {
	t.Helper()
	q, _, err := eval.Run(d, p, args...)
	if err == api.ErrNeed {
		return p
	}
	if err != nil {
		t.Fatalf("%q with %v: %v", shown(d), args, err)
	}
	u := turned(t, d)
	r, given, err := eval.Run(u, q, args...)
	if r != p || given != 0 || err != nil {
		t.Errorf("%q with %v: %v, from there %q: %v, %d, %v; want %v", shown(d), args, q, shown(u), r, given, err, p)
	}
	return q
}

// P10.2: undoing

// Adding and taking, also of cells that aren't there, and of numbers that wrap around; each of these comes to another page somewhere.
func TestUndoOfChanges(t *testing.T) {
	for _, text := range []string{
		"op o(i,v){[i]+=v;}", "op o(i,v){[i]-=v;}", "op o(i,v){[i]<>[v];}", "op o(i,v){[i]+=v;[i]-=v*3;[i+1]<>[i];[i+1]+=v;}", "op o(i,v){[i]<>[v];[v]+=i;[i]<>[v+1];}",
		"op o(i,v){[i]<>[i];[v]-=v;[i]<>[60];}", "op o(i,v){[i]+=v*v;[i]+=9223372036854775807;[i]-=-v;[i]+=i*v;}", "op o(i,v){let a=i/v;[a]+=1;let b=i%v;[b]<>[a];[b]-=a;}",
		"op o(i,v){if i<v{[i]+=1;[i]<>[i+1];}else{[v]-=2;[v]<>[59-v];}[v]<>[i];}", "op o(i,v){let a=i==v;if a{[i]+=5;[i]<>[0];}else{[0]<>[1];[1]+=v;}if !a{[0]-=i;}}",
		"op o(i,v){[0]+=1;[0]<>[1];let a=v;[1]-=a;for k in 0..60{[k]+=a;}}",
	} {
		changed := 0
		d := parsed(t, text)
		for _, i := range edges() {
			for _, v := range edges() {
				for _, p := range []api.Page{counted(), extreme(), {}} {
					if undone(t, d, p, i, v) != p {
						changed++
					}
				}
			}
		}
		if changed == 0 {
			t.Errorf("%q changes nothing", text)
		}
	}
}

// Loops whose rounds must be undone from the last one on.
func TestUndoOfLoops(t *testing.T) {
	for _, text := range []string{
		"op o(n){for k in 0..59{[k]<>[k+1];}}", "op o(n){for k in 0..64{[k]<>[k*n];[k]+=n;}}", "op o(n){for k in 0..8{for m in 0..9{[k+m]<>[k*m+n];[m]-=k*n;}[k]+=1;}}",
		"op o(n){for k in 0..3{let a=k*n;[a]+=a;if a<n{[a]<>[k];}else{for m in 0..4{[m]<>[m+a];[m+1]-=m;}}[59]<>[a];}}", "op o(n){for k in 0..0{[k]<>[n];}[1]<>[n];}",
		"op o(n){[n]<>[0];for k in 0..1{[k]<>[1];}for m in 0..20{[m]<>[m+n];}[n]+=1;}",
	} {
		d := parsed(t, text)
		changed := 0
		for n := -3; n < 63; n++ {
			q := undone(t, d, counted(), n)
			if q != counted() {
				changed++
			}
			undone(t, d, extreme(), n)
			// Turned it is an operation too, with loops that run backwards, and the definition undoes it.
			u := turned(t, d)
			undone(t, u, counted(), n)
			if back := ran(t, d, ran(t, u, q, n), n); back != q {
				t.Errorf("%q with %d: %v, want %v", text, n, back, q)
			}
		}
		if changed == 0 {
			t.Errorf("%q changes nothing", text)
		}
	}
}

// A need isn't asked when the operation is undone: it holds ahead of it, and needn't behind it.
func TestUndoOfNeeds(t *testing.T) {
	d := parsed(t, "op o(i){need [i]==0;need [i+1]<=0;[i]+=1;[i+1]+=[0]*0+2;give [i];}")
	refusedDef(t, d)
	d = parsed(t, "op o(i){need [i]==0;need [i+1]<=0;[i]+=1;[i+1]+=2;give [i];}")
	q := undone(t, d, api.Page{}, 7)
	if q.Cells[7] != 1 || q.Cells[8] != 2 {
		t.Error(q)
	}
	if _, _, err := eval.Run(d, q, 7); err != api.ErrNeed {
		t.Error(err)
	}
}

// An example of one's numbers, by hand.
func TestUndoByHand(t *testing.T) {
	u := turned(t, parsed(t, "op f(i){let a=i*2;[a]+=1;for k in 0..3{[k]<>[a];}}"))
	p := api.Page{Lsn: 9}
	p.Cells[0], p.Cells[1], p.Cells[2], p.Cells[10] = 10, 20, 30, 41
	// [2]<>[10], [1]<>[10], [0]<>[10], [10]-=1.
	want := api.Page{Lsn: 9}
	want.Cells[0], want.Cells[1], want.Cells[2], want.Cells[10] = 20, 30, 41, 9
	if got := ran(t, u, p, 5); got != want {
		t.Errorf("%v, want %v", got, want)
	}
}

// P10.3: the turned operation is checked

// bare is a definition without what is left out: its statements alone.
func bare(d api.Def) api.Def {
	d.Needs, d.Give = nil, nil
	return d
}

// sound tells of a turned operation that isn't checked, takes other steps, or changes cells in another mode, than the statements.
func sound(t *testing.T, d api.Def) api.Info {
	t.Helper()
	want, err := check.Check(bare(d))
	if err != nil {
		t.Fatalf("%q: %v", shown(d), err)
	}
	u := turned(t, d)
	got, err := check.Check(u)
	if err != nil || got != want || !got.Turns {
		t.Errorf("%q: turned %+v, %v; want %+v", shown(d), got, err, want)
	}
	return got
}

func TestSound(t *testing.T) {
	for text, want := range map[string]api.Info{
		"op o(){}":                  {Mode: api.Reads, Turns: true},
		"op o(i){give [i];}":        {Mode: api.Reads, Names: 1, Turns: true},
		"op o(i){need i<3;[i]+=i;}": {Mode: api.Adds, Steps: 3, Names: 1, Turns: true},
		// What is left out reads a cell: what is left adds.
		"op o(i){need [i]<3;[i]-=i;}":                            {Mode: api.Adds, Steps: 3, Names: 1, Turns: true},
		"op o(i){[i]+=i;give [i];}":                              {Mode: api.Adds, Steps: 3, Names: 1, Turns: true},
		"op o(i){[i]<>[i+1];give 3;}":                            {Mode: api.Writes, Steps: 5, Names: 1, Turns: true},
		"op o(i){let a=i;if a<1{[a]+=1;}else{for k in 0..3{}}}":  {Mode: api.Adds, Steps: 2 + 4 + 4, Names: 3, Turns: true},
		"op o(i){for k in 0..4{if k<1{[k]+=1;}else{[k]<>[i];}}}": {Mode: api.Writes, Steps: 1 + 4*(1+4+3), Names: 2, Turns: true},
		"op o(i){if true{if false{}}else{let b=i<i;}}":           {Mode: api.Reads, Steps: 6, Names: 2, Turns: true},
	} {
		if got := sound(t, parsed(t, text)); got != want {
			t.Errorf("%q: %+v, want %+v", text, got, want)
		}
	}
}

// The greatest that there are: all the steps, all the names.
func TestSoundAtTheLimits(t *testing.T) {
	for text, want := range map[string]api.Info{
		"op o(){for a in 0..23{" + strings.Repeat("[0]+=1;", 29) + "}for b in 0..22{}}": {Mode: api.Adds, Steps: 2048, Names: 2, Turns: true},
		"op o(a,b,c,d,e,f,g,h){let i=a;let j=b;for l in 0..2{let m=d;}let k=c;for n in 0..1{for p in 0..0{[a]<>[1];let q=h;}}}": {
			Mode: api.Writes, Steps: 16, Names: 16, Turns: true},
	} {
		if got := sound(t, parsed(t, text)); got != want {
			t.Errorf("%q: %+v, want %+v", text, got, want)
		}
	}
}

// P10.3: turned again it does what the definition's statements do, needs or not

func TestTurnedTwice(t *testing.T) {
	for _, text := range []string{
		"op o(i,v){need [i]==v;[i]+=v;let a=v*2;[a]<>[i];for k in 0..9{[k]<>[k+a];if k<i{[k]-=1;}else{[a]+=k;let b=k;[b]<>[0];}}give [i];}",
		"op o(i,v){need false;[i]<>[v];[v]<>[0];[0]-=v;}", "op o(i,v){[v]+=1;if i<v{[i]<>[v];[v]+=3;let a=i+v;[a]<>[v];}}",
		"op o(i,v){}", "op o(i,v){let a=i;let b=a;}",
	} {
		d := parsed(t, text)
		twice := turned(t, turned(t, d))
		for _, i := range edges() {
			for _, v := range edges() {
				want := ran(t, bare(d), counted(), i, v)
				if got := ran(t, twice, counted(), i, v); got != want {
					t.Errorf("%q with %d, %d, turned twice %q: %v, want %v", text, i, v, shown(twice), got, want)
				}
			}
		}
		// From there on it goes round and round.
		if third, fifth := turned(t, twice), turned(t, turned(t, turned(t, twice))); shown(third) != shown(fifth) || shown(third) != shown(turned(t, d)) {
			t.Errorf("%q: %q, %q", text, shown(third), shown(fifth))
		}
	}
}

// In any order, adders are undone: each takes its own off.
func TestUndoOfAddersInAnyOrder(t *testing.T) {
	add, move := parsed(t, "op o(i,v){need i<60;[i]+=v;give [i];}"), parsed(t, "op o(i,v){for k in 0..5{[i+k]-=v;[k]+=v*k;}}")
	for _, v := range []int{5, -1, greatest, least} {
		p := ran(t, move, ran(t, add, counted(), 3, v), 2, 7)
		one := ran(t, turned(t, move), ran(t, turned(t, add), p, 3, v), 2, 7)
		two := ran(t, turned(t, add), ran(t, turned(t, move), p, 2, 7), 3, v)
		if one != counted() || two != counted() {
			t.Errorf("%d: %v, %v", v, one, two)
		}
	}
}

// Every row of three statements, of which each hangs on the ones ahead of it, with an inner block of them.
func TestUndoOfAllShortOperations(t *testing.T) {
	parts := []string{"[i]+=v;", "[i]-=3;", "[i]<>[v];", "[0]<>[i];", "let a@=i+v;[a@]<>[0];", "if i<v{[i]+=1;[1]<>[i];}else{[v]<>[2];[2]-=v;}",
		"for b@ in 0..4{[b@]<>[b@+i];[i]+=b@;}", "for c@ in 0..3{let d@=c@*v;if d@<i{[d@]<>[3];}[d@]+=1;}"}
	rows := 0
	for one := range parts {
		for two := range parts {
			for three := range parts {
				d := parsed(t, "op o(i,v){"+numbered(parts[one], parts[two], parts[three])+"}")
				sound(t, d)
				for _, args := range [][]int{{0, 1}, {1, 3}, {2, 2}, {5, 0}, {60, 1}, {2, -1}} {
					if undone(t, d, counted(), args...) != counted() {
						rows++
					}
				}
			}
		}
	}
	if rows < 2500 {
		t.Error(rows)
	}
}

// numbered is parts of a text, each with names of its own: its place stands for the sign @.
func numbered(parts ...string) string {
	text := ""
	for i, part := range parts {
		for _, c := range part {
			if c == '@' {
				c = rune('0' + i)
			}
			text += string(c)
		}
	}
	return text
}
