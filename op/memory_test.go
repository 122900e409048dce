package op_test

import (
	"bytes"
	"slices"
	"testing"
	"unsafe"

	"palimpsest/api"
)

// What is handed in is neither changed nor kept, spare room of lists included.

// spare is numbers with their own memory, and spare room with something in it.
func spare(args []int) []int {
	return append(slices.Clone(args), -7, -8, -9)[:len(args)]
}

func TestArgumentsAreLeftAlone(t *testing.T) {
	o := formatted(t, device(t, 16), 0)
	defined(t, o, texts()...)
	draws := draw(134)
	for range 300 {
		for id := range 18 {
			args := spare(draws.args(o.Params(id) + draws.next(2)))
			was := slices.Clone(args[:len(args)+3])
			p := draws.page()
			from := p
			got := ran(o, id, p, args...)
			back := undone(o, id, got.page, args...)
			if !slices.Equal(args[:len(args)+3], was) || p != from {
				t.Fatalf("arguments %v become %v", was, args[:len(args)+3])
			}
			// The next answers must not hang on what becomes of the earlier arguments.
			again := slices.Clone(args)
			clear(args[:cap(args)])
			if ran(o, id, p, again...) != got || undone(o, id, got.page, again...) != back {
				t.Fatal("arguments are kept")
			}
		}
	}
}

func TestTextsAreNotKept(t *testing.T) {
	d := device(t, 16)
	o := formatted(t, d, 0)
	for i, text := range texts() {
		b := []byte(text)
		handed := unsafe.String(&b[0], len(b))
		if n, err := o.Define(handed); n != i+1 || err != nil {
			t.Fatal(n, err)
		}
		// Were a piece of it kept, this would change it.
		clear(b)
		holds(t, o, texts()[:i+1]...)
	}
	for id := 1; id <= 16; id++ {
		isRun(t, o, id, counted(), slices.Repeat([]int{1}, o.Params(id))...)
	}
	holds(t, opened(t, d, 0), texts()...)
}

func TestRefusedTextsAreNotKept(t *testing.T) {
	d := device(t, 16)
	o := formatted(t, d, 0)
	defined(t, o, "op add(i, v) { [i] += v; }")
	for _, f := range faults() {
		b := append([]byte(f.text), 0)
		handed := unsafe.String(&b[0], len(b)-1)
		undefined(t, d, o, handed, api.Fault{Code: f.code, At: f.at})
		if string(b) != f.text+"\x00" {
			t.Error("a text is changed")
		}
	}
}

// What the device has is the device's own: the bytes that it hands out can be changed.
func TestSectorsAreNotKept(t *testing.T) {
	d := device(t, 16)
	o := formatted(t, d, 0)
	defined(t, o, texts()...)
	o = opened(t, d, 0)
	for at := range 16 {
		b, err := d.Read(at)
		if err != nil {
			t.Fatal(err)
		}
		clear(b)
		written(t, d, at, bytes.Repeat([]byte{3}, 512))
	}
	holds(t, o, texts()...)
}
