package code_test

import (
	"encoding/binary"
	"fmt"
	"math"
	"strings"
	"testing"

	"guise/api"
	"guise/code"
)

// rich is a right program with something in each of its fields, and numbers of one, two and three bytes.
func rich() code.Program {
	l := inRow(
		[]code.Inst{{Op: code.OpStep, At: api.MaxSource}, {Op: code.OpText, Text: "\x00\xff\"\\\n\t a", At: 64}, {Op: code.OpStoreGlobal, A: 1, At: 63}},
		[]code.Inst{{Op: code.OpInt, Text: "-9223372036854775808"}, {Op: code.OpLoad, A: 199}, {Op: code.OpSlice, A: 2, B: 2, At: 8192}, {Op: code.OpStore, A: 64}},
		[]code.Inst{{Op: code.OpLiteral, A: 2}, ret})
	f := declared("T.m", l...)
	f.Params, f.Slots = 13, 200
	inner := literal(1, []int{0, 199, 63, 64}, to(code.OpTaken, 3), ret)
	inner.Params, inner.Slots = 1, 2
	deep := literal(2, []int{-1, 1, -4}, text(code.OpText, 0, strings.Repeat("long ", 60)), ret)
	p := program(beginning(ends()...), f, inner, deep)
	p.Globals = []string{"a", longName, "_"}
	return p
}

func TestEncodeIsWhatTheChapterSays(t *testing.T) {
	p := rich()
	wantRight(t, "the rich one", p, "ok")
	is(t, "P13.3: Encode", encoded(t, p), modelEncode(p))
	wantThereAndBack(t, "the rich one", p)
	small := program(beginning(null, code.Inst{Op: code.OpReturn, At: 64}), literal(0, []int{0}, text(code.OpText, 0, "ab"), ret))
	small.Globals = []string{"x", "yz"}
	small.Funcs[0].Slots = 1
	must := "GC01" + "\x04\x02x\x04yz" + "\x04" +
		"\x00\x00\x02\x00\x01\x04" + "\x0e\x00\x00\x00\x00" + "\x64\x00\x00\x00\x80\x01" +
		"\x08func\x00\x00\x02\x00\x00\x04" + "\x0a\x00\x00\x04ab\x00" + "\x64\x00\x00\x00\x00"
	is(t, "P13.3: Encode", encoded(t, small), must)
	is(t, "P13.3: Decode", decode(t, must), written(small))
}

// raw writes numbers as Go's own library folds them.
func raw(n int) string { return string(binary.AppendVarint(nil, int64(n))) }

// bytesOf is a program of one function, whose Slots stand there as any bytes; and where these begin.
func bytesOf(slots string) (string, int) {
	front := "GC01\x00\x02\x00\x00"
	return front + slots + "\x00\x01\x04\x0e\x00\x00\x00\x00\x64\x00\x00\x00\x00", len(front)
}

// Numbers of each length, as they are read, by what Right says of so many slots.
func TestNumbers(t *testing.T) {
	for _, n := range []int{0, 1, 63, 64, 127, 128, 8191, 8192, api.MaxNodes, api.MaxNodes + 1, 1 << 20, 1 << 40, math.MaxInt, -1, -2, -64, -65, -1 << 40, math.MinInt, math.MinInt + 1, math.MaxInt - 1} {
		b, _ := bytesOf(raw(n))
		must := "130 0"
		switch {
		case n > api.MaxNodes:
			must = "22 0"
		case n >= 0:
			p := one(ends()...)
			p.Funcs[0].Slots = n
			must = written(p)
		}
		is(t, fmt.Sprintf("P13.3: Decode of %d slots", n), decode(t, b), must)
		is(t, "the model", modelDecode(b), must)
	}
}

// Numbers that may not be are wrong at their first byte, also where the bytes end there.
func TestWrongNumbers(t *testing.T) {
	long := strings.Repeat("\x80", 9)
	for _, s := range []string{
		"\x80\x00", "\x81\x00", "\xff\x00", "\x80\x80\x00", "\xff\xff\x00", long[:8] + "\x00", long + "\x00", long + "\x02", long + "\x03", long + "\x7f", long + "\x80", long + "\x81",
		long + "\xff", long + "\x80\x00", long + "\x80\x01", long + "\x81\x01", strings.Repeat("\xff", 10), strings.Repeat("\xff", 30), strings.Repeat("\xff", 9) + "\x02", strings.Repeat("\x80", 100) + "\x01",
	} {
		b, at := bytesOf(s)
		must := wrong(api.ErrCode, at, "")
		is(t, fmt.Sprintf("P13.3: Decode with %q", s), decode(t, b), must)
		is(t, fmt.Sprintf("P13.3: Decode with %q at the end", s), decode(t, b[:at+len(s)]), must)
		is(t, "the model", modelDecode(b), must)
	}
	for _, s := range []string{"\x80", "\xff", "\x80\x80", long[:8], long, strings.Repeat("\xff", 9)} {
		b, at := bytesOf(s)
		is(t, fmt.Sprintf("P13.3: Decode that ends in %q", s), decode(t, b[:at+len(s)]), wrong(api.ErrCode, at+len(s), ""))
	}
	for _, s := range []string{long + "\x01", strings.Repeat("\xff", 9) + "\x01", long[:8] + "\x01", strings.Repeat("\xff", 8) + "\x7f"} {
		b, _ := bytesOf(s)
		is(t, fmt.Sprintf("P13.3: Decode with %q, which is a number", s), decode(t, b), modelRight(decodedSlots(s)))
	}
}

// decodedSlots is the program of bytesOf, by Go's own library.
func decodedSlots(s string) code.Program {
	n, _ := binary.Varint([]byte(s))
	p := one(ends()...)
	p.Funcs[0].Slots = int(n)
	return p
}

// Lists and texts that say more than there are bytes left, or less than none, are wrong at their number's first byte.
func TestCounts(t *testing.T) {
	for _, c := range []struct {
		what, front string
	}{
		{"globals", "GC01"}, {"a global", "GC01\x02"}, {"a second global", "GC01\x04\x02a"}, {"functions", "GC01\x00"}, {"a name", "GC01\x00\x02"},
		{"taken", "GC01\x00\x02\x00\x00\x02"}, {"code", "GC01\x00\x02\x00\x00\x02\x00\x01"}, {"a text", "GC01\x00\x02\x00\x00\x02\x00\x01\x04\x0a\x00\x00"},
		{"the second function's name", "GC01\x00\x04\x00\x00\x02\x00\x01\x02\x64\x00\x00\x00\x00"},
	} {
		at := wrong(api.ErrCode, len(c.front), "")
		for _, n := range []int{-1, -2, -64, -65, math.MinInt, 10, 63, 64, 1 << 31, 1 << 32, 1 << 40, math.MaxInt} {
			for _, behind := range []string{"", "\x00", strings.Repeat("\x00", 9)} {
				is(t, fmt.Sprintf("P13.3: %s: %d with %d bytes behind", c.what, n, len(behind)), decode(t, c.front+raw(n)+behind), at)
			}
		}
		is(t, "P13.3: "+c.what+": one, and no byte", decode(t, c.front+raw(1)), at)
		is(t, "P13.3: "+c.what+": two, and one byte", decode(t, c.front+raw(2)+"\x00"), at)
		if got := decode(t, c.front+raw(3)+"\x00\x00\x00"); got == at {
			t.Errorf("P13.3: %s: as many as there are bytes: %s", c.what, got)
		}
		bytesAsTheModel(t, c.front)
		is(t, "P13.3: "+c.what+": too long a number", decode(t, c.front+"\x82\x00\x00\x00"), at)
	}
}

func TestHead(t *testing.T) {
	whole := encoded(t, one(ends()...))
	for i := range 4 {
		is(t, "P13.3: Decode of a piece of the head", decode(t, whole[:i]), wrong(api.ErrCode, i, ""))
		for c := range 256 {
			if byte(c) != whole[i] {
				is(t, "P13.3: Decode of another head", decode(t, whole[:i]+string([]byte{byte(c)})+whole[i+1:]), wrong(api.ErrCode, i, ""))
			}
		}
	}
	is(t, "P13.3: the head alone", decode(t, "GC01"), "130 4")
	is(t, "P13.3: two heads", decode(t, "GC01GC01"), "130 4")
}

// Bytes behind the program are told ahead of what is not right within it.
func TestBehind(t *testing.T) {
	whole := encoded(t, rich())
	for _, behind := range []string{"\x00", "x", "GC01", whole, "\xff", "\x80\x00"} {
		is(t, "P13.3: bytes behind", decode(t, whole+behind), wrong(api.ErrCode, len(whole), ""))
	}
	bad := modelEncode(one(ret))
	is(t, "P13.3: a program that is not right", decode(t, bad), "130 0 0")
	is(t, "P13.3: that, and bytes behind", decode(t, bad+"\x00"), wrong(api.ErrCode, len(bad), ""))
	none := modelEncode(code.Program{})
	is(t, "P13.3: no function", decode(t, none), "22 0")
	is(t, "P13.3: no function, and bytes behind", decode(t, none+"\x00"), wrong(api.ErrCode, len(none), ""))
}

// Cut at every place: never a program; each byte turned to each other one, put in and left out: as the model says.
func TestBytesTurned(t *testing.T) {
	for _, p := range []code.Program{one(ends()...), altered(4, func(f *code.Func) {}), rich()} {
		b := encoded(t, p)
		for i := range len(b) {
			if bytesAsTheModel(t, b[:i]) {
				t.Errorf("P13.3: %d bytes of %d are a program", i, len(b))
			}
			bytesAsTheModel(t, b[:i]+b[i+1:])
			for c := range 256 {
				if len(b) > 200 && c%17 != 0 && c != 1 && c != 128 {
					continue
				}
				bytesAsTheModel(t, b[:i]+string([]byte{byte(c)})+b[i+1:])
				bytesAsTheModel(t, b[:i]+string([]byte{byte(c)})+b[i:])
			}
		}
	}
}
