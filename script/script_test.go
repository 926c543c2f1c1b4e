package script

import (
	"math"
	"math/rand"
	"slices"
	"strconv"
	"strings"
	"testing"

	"gimlet/api"
)

func ed(from, to int, text string) api.Edit {
	return api.Edit{Span: api.Span{From: from, To: to}, Text: text}
}

func sel(anchor, head int) api.Sel { return api.Sel{Anchor: anchor, Head: head} }

func same(a, b api.Op) bool {
	return a.Kind == b.Kind && a.Name == b.Name && a.Text == b.Text && a.N == b.N && a.Extend == b.Extend && slices.Equal(a.Edits, b.Edits) && slices.Equal(a.Sels, b.Sels)
}

func TestP31_1Read(t *testing.T) {
	s := "dice 0 4294967295 7\nset 1:A 3:x\ny\ntype 0:\ntype 4: \n: \nerase 1\nerase -5\nedit\nedit 0 -1 2:ab 5 6 0:\nselect\nselect 1 2 -3 999999999999999999\n" +
		"move 5 0\nmove -2 1\ninsert 6:${1:a}\nnext\nprev\nleave\nchoose 2\nundo\nredo\n"
	want := []api.Op{
		{Kind: api.OpSet, Name: "A", Text: "x\ny"}, {Kind: api.OpType}, {Kind: api.OpType, Text: " \n: "}, {Kind: api.OpErase, N: 1}, {Kind: api.OpErase, N: -5},
		{Kind: api.OpEdit}, {Kind: api.OpEdit, Edits: []api.Edit{ed(0, -1, "ab"), ed(5, 6, "")}}, {Kind: api.OpSelect},
		{Kind: api.OpSelect, Sels: []api.Sel{sel(1, 2), sel(-3, 999999999999999999)}}, {Kind: api.OpMove, N: 5}, {Kind: api.OpMove, N: -2, Extend: true},
		{Kind: api.OpInsert, Text: "${1:a}"}, {Kind: api.OpNext}, {Kind: api.OpPrev}, {Kind: api.OpLeave}, {Kind: api.OpChoose, N: 2}, {Kind: api.OpUndo}, {Kind: api.OpRedo},
	}
	b := []byte(s)
	nums, os, line, code := Read(b)
	if code != api.OK || line != 0 || !slices.Equal(nums, []uint32{0, math.MaxUint32, 7}) || !slices.EqualFunc(os, want, same) {
		t.Errorf("Read: %v, %v, %d, %d", nums, os, line, code)
	}
	clear(b)
	if os[0].Text != "x\ny" {
		t.Error("R4: the argument is retained")
	}
	shown, code := Show(nums, os...)
	if code != api.OK || string(shown) != s {
		t.Errorf("Show: %q, %d", shown, code)
	}
	if nums, os, line, code := Read([]byte("dice\n")); len(nums) != 0 || len(os) != 0 || line != 0 || code != api.OK {
		t.Error("nothing but dice")
	}
}

func TestP31_1ReadRefused(t *testing.T) {
	for s, want := range map[string]int{
		"": 1, "dice": 1, "\n": 1, "dic\n": 1, "dices\n": 1, "dice \n": 1, "dice  1\n": 1, "dice -1\n": 1, "dice 4294967296\n": 1, "dice 01\n": 1, "dice 1 \n": 1, "dice a\n": 1, "Dice\n": 1,
		"next\n": 1, "type 3:ab": 1, " dice\n": 1, "dice 999999999999999999\n": 1,
		"dice\ndice\n": 2, "dice\n\n": 2, "dice\nnext": 2, "dice\nnext \n": 2, "dice\nnext 1\n": 2, "dice\nfoo\n": 2, "dice\nnextx\n": 2, "dice\n next\n": 2, "dice\nnext\r\n": 2,
		"dice\ntype 3:ab\n": 2, "dice\ntype 2:abc\n": 2, "dice\ntype 3:ab": 2, "dice\ntype ab\n": 2, "dice\ntype\n": 2, "dice\ntype -1:\n": 2, "dice\ntype 01:a\n": 2, "dice\ntype -0:\n": 2,
		"dice\ntype 2 ab\n": 2, "dice\ntype 1:a 1:b\n": 2, "dice\ntype 999999999999999999:a\n": 2, "dice\ntype  1:a\n": 2, "dice\ntype :a\n": 2,
		"dice\nset 1:A\n": 2, "dice\nset 1:A1:b\n": 2, "dice\nerase\n": 2, "dice\nerase +1\n": 2, "dice\nerase 01\n": 2, "dice\nerase -0\n": 2, "dice\nerase -01\n": 2, "dice\nerase 1000000000000000000\n": 2,
		"dice\nerase --1\n": 2, "dice\nerase -\n": 2, "dice\nerase 1a\n": 2, "dice\nedit -0 1:a\n": 2, "dice\nedit -0 1 1:a\n": 2, "dice\nedit 1 -0 1:a\n": 2, "dice\nselect -0 1\n": 2, "dice\nselect 1 -0\n": 2, "dice\nselect -0\n": 2, "dice\nmove -0 1\n": 2, "dice\nedit 1\n": 2, "dice\nedit 1 2\n": 2, "dice\nedit 1 2 1:a 3\n": 2, "dice\nedit \n": 2, "dice\nselect 1\n": 2, "dice\nselect 1 2 3\n": 2,
		"dice\nmove 1\n": 2, "dice\nmove 1 2\n": 2, "dice\nmove 1 00\n": 2, "dice\nmove 1 -1\n": 2, "dice\nmove 0\n": 2, "dice\nchoose\n": 2, "dice\ninsert\n": 2, "dice\nundo\x00\n": 2,
		"dice\ntype 3:\n\n\n\nfoo\n": 3, "dice\nnext\nprev\nundo": 4, "dice\nset 1:\n 2:\n\n\nerase x\n": 3,
	} {
		nums, os, line, code := Read([]byte(s))
		if line != want || code != api.ErrForm || nums != nil || os != nil {
			t.Errorf("Read(%q): line %d, %d", s, line, code)
		}
		out, line, code := Run([]byte(s))
		if line != want || code != api.ErrForm || out != "" {
			t.Errorf("Run(%q): line %d, %d", s, line, code)
		}
	}
}

func TestP31_1Limits(t *testing.T) {
	full := "dice\n" + strings.Repeat("next\n", api.MaxOps)
	for s, want := range map[string][2]int{
		full: {0, int(api.OK)}, full + "undo\n": {api.MaxOps + 2, int(api.ErrFull)}, full + "und\n": {api.MaxOps + 2, int(api.ErrForm)}, full + "undo": {api.MaxOps + 2, int(api.ErrForm)},
		full + "undo\nfoo\n": {api.MaxOps + 2, int(api.ErrFull)}, "foo" + full + "undo\n": {1, int(api.ErrForm)},
		"dice\ntype 65519:" + strings.Repeat("a", 65519) + "\n": {0, int(api.OK)}, "dice\ntype 65520:" + strings.Repeat("a", 65520) + "\n": {0, int(api.ErrSize)},
		strings.Repeat("x", api.MaxScript+1): {0, int(api.ErrSize)}, strings.Repeat("x", api.MaxScript): {1, int(api.ErrForm)},
	} {
		if _, _, line, code := Read([]byte(s)); line != want[0] || int(code) != want[1] {
			t.Errorf("%d bytes: line %d, %d, not %v", len(s), line, code, want)
		}
	}
}

func TestP31_1Show(t *testing.T) {
	b, code := Show(nil)
	if string(b) != "dice\n" || code != api.OK {
		t.Errorf("nothing: %q", b)
	}
	b, code = Show([]uint32{0, 1 << 31}, api.Op{Kind: api.OpMove, N: -999999999999999999, Extend: true}, api.Op{Kind: api.OpNext, Edits: []api.Edit{}, Sels: []api.Sel{}})
	if string(b) != "dice 0 2147483648\nmove -999999999999999999 1\nnext\n" || code != api.OK {
		t.Errorf("Show: %q, %d", b, code)
	}
	for k, o := range []api.Op{
		{}, {Kind: 14}, {Kind: -1}, {Kind: api.OpNext, N: 1}, {Kind: api.OpUndo, Text: "a"}, {Kind: api.OpRedo, Name: "a"}, {Kind: api.OpLeave, Extend: true}, {Kind: api.OpPrev, Sels: make([]api.Sel, 1)},
		{Kind: api.OpSet, Name: "A", N: 1}, {Kind: api.OpType, Name: "a"}, {Kind: api.OpErase, Text: "a"}, {Kind: api.OpErase, Extend: true}, {Kind: api.OpEdit, N: 1}, {Kind: api.OpEdit, Sels: make([]api.Sel, 1)},
		{Kind: api.OpSelect, Edits: make([]api.Edit, 1)}, {Kind: api.OpMove, Text: "a"}, {Kind: api.OpInsert, Extend: true}, {Kind: api.OpChoose, Edits: make([]api.Edit, 1)},
		{Kind: api.OpErase, N: 1000000000000000000}, {Kind: api.OpErase, N: -1000000000000000000}, {Kind: api.OpMove, N: math.MinInt}, {Kind: api.OpChoose, N: math.MaxInt},
		{Kind: api.OpEdit, Edits: []api.Edit{ed(1000000000000000000, 0, "")}}, {Kind: api.OpEdit, Edits: []api.Edit{ed(0, 0, ""), ed(0, math.MinInt, "")}},
		{Kind: api.OpSelect, Sels: []api.Sel{sel(0, 0), sel(math.MaxInt, 0)}}, {Kind: api.OpSelect, Sels: []api.Sel{sel(0, -1000000000000000000)}},
	} {
		many := make([]api.Op, api.MaxOps+1)
		for i := range many {
			many[i] = api.Op{Kind: api.OpType, Text: strings.Repeat("a", 100)}
		}
		many[k*7] = o
		if b, code := Show(nil, many...); b != nil || code != api.ErrArg {
			t.Errorf("operation %d: %d", k, code)
		}
	}
	next := make([]api.Op, api.MaxOps+1)
	for i := range next {
		next[i].Kind = api.OpNext
	}
	if b, code := Show(make([]uint32, api.MaxScript), next...); b != nil || code != api.ErrFull {
		t.Errorf("too many operations: %d", code)
	}
	if _, code := Show(nil, next[1:]...); code != api.OK {
		t.Errorf("as many as may be: %d", code)
	}
	for n, want := range map[int]api.Errno{65519: api.OK, 65520: api.ErrSize, 200000: api.ErrSize} {
		if b, code := Show(nil, api.Op{Kind: api.OpType, Text: strings.Repeat("a", n)}); code != want || (b == nil) != (want != api.OK) {
			t.Errorf("a text of %d bytes: %d", n, code)
		}
	}
	for n, want := range map[int]api.Errno{32765: api.OK, 32766: api.ErrSize, 40000: api.ErrSize} {
		if _, code := Show(make([]uint32, n)); code != want {
			t.Errorf("%d numbers: %d", n, code)
		}
	}
}

func TestP31_2Run(t *testing.T) {
	for s, want := range map[string]string{
		"dice\ntype 2:ab\n": "0 2 3105 2-2\n",
		"dice 5 6\n":        "",
	} {
		if out, line, code := Run([]byte(s)); out != want || line != 0 || code != api.OK {
			t.Errorf("Run(%q): %q, %d, %d", s, out, line, code)
		}
	}
	out, line, code := Run([]byte("dice\ninsert 9:${1:a}-$1\ntype 2:xy\ninsert 6:<${2}>\nundo\nnext\nerase 2\nselect 1 0 5 3\nredo\nset 2:9a 0:\n"))
	want := []string{
		"0 3 " + strconv.Itoa(Crc("a-a")) + " 0-1 2-3 @1/1/3",
		"0 5 " + strconv.Itoa(Crc("xy-xy")) + " 2-2 5-5 @1/1/3",
		"0 9 " + strconv.Itoa(Crc("xy<>-xy<>")) + " 3-3 8-8 @1/1/3 @2/2/4",
		"0 5 " + strconv.Itoa(Crc("xy-xy")) + " 2-2 5-5 @1/1/3",
		"0 5 " + strconv.Itoa(Crc("xy-xy")) + " 5-5",
		"2 5 " + strconv.Itoa(Crc("xy-xy")) + " 5-5",
		"0 5 " + strconv.Itoa(Crc("xy-xy")) + " 1-0 5-3",
		"12 5 " + strconv.Itoa(Crc("xy-xy")) + " 1-0 5-3",
		"2 5 " + strconv.Itoa(Crc("xy-xy")) + " 1-0 5-3",
	}
	if got := strings.Split(strings.TrimSuffix(out, "\n"), "\n"); code != api.OK || line != 0 || !slices.Equal(got, want) {
		t.Errorf("Run: %q, %d", got, code)
	}
	if out, line, code := Run([]byte(strings.Repeat("x", api.MaxScript+1))); out != "" || line != 0 || code != api.ErrSize {
		t.Errorf("too long a script: %d", code)
	}
}

func TestP31_2Crc(t *testing.T) {
	if Crc("") != 0 || Crc("ab") != 3105 || Crc("\xff") != 255 {
		t.Error("Crc")
	}
	sum := 0
	s := strings.Repeat("\xff~ab\n", 20000)
	for i := range len(s) {
		sum = (sum*31 + int(s[i])) % 1000003
	}
	if Crc(s) != sum || sum >= 1000003 {
		t.Error("Crc of a long text")
	}
}

func TestP31_3RoundTrip(t *testing.T) {
	rnd := rand.New(rand.NewSource(35))
	text := func() string {
		return []string{"", "a", "\n", "1:a", " ", "é\x00", "next\n"}[rnd.Intn(7)]
	}
	n := func() int { return rnd.Intn(2000)*rnd.Intn(3) - 1000 }
	for range 3000 {
		var os []api.Op
		for range rnd.Intn(8) {
			o := api.Op{Kind: 1 + rnd.Intn(13)}
			switch o.Kind {
			case api.OpSet:
				o.Name, o.Text = text(), text()
			case api.OpType, api.OpInsert:
				o.Text = text()
			case api.OpErase, api.OpChoose:
				o.N = n()
			case api.OpMove:
				o.N, o.Extend = n(), rnd.Intn(2) == 0
			case api.OpEdit:
				for range rnd.Intn(3) {
					o.Edits = append(o.Edits, ed(n(), n(), text()))
				}
			case api.OpSelect:
				for range rnd.Intn(3) {
					o.Sels = append(o.Sels, sel(n(), n()))
				}
			}
			os = append(os, o)
		}
		nums := make([]uint32, rnd.Intn(4))
		for i := range nums {
			nums[i] = rnd.Uint32()
		}
		b, code := Show(nums, os...)
		if code != api.OK {
			t.Fatalf("Show: %d", code)
		}
		gotNums, gotOps, line, code := Read(b)
		if code != api.OK || line != 0 || !slices.Equal(gotNums, nums) || !slices.EqualFunc(gotOps, os, same) {
			t.Fatalf("Read(%q): %v, %v, %d, %d", b, gotNums, gotOps, line, code)
		}
		if out, _, code := Run(b); code != api.OK || strings.Count(out, "\n") != len(os) {
			t.Fatalf("Run(%q): %q, %d", b, out, code)
		}
	}
}
