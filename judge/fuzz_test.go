package judge

import (
	"math/rand"
	"strconv"
	"strings"

	"gimlet/api"
)

func randomText(rnd *rand.Rand, n int) string {
	var b strings.Builder
	for range rnd.Intn(n) {
		b.WriteString([]string{"a", "b", "x", "\n", " ", "\t", "é", "_"}[rnd.Intn(8)])
	}
	return b.String()
}

func randomSnippet(rnd *rand.Rand, depth int) string {
	var b strings.Builder
	for range 1 + rnd.Intn(4) {
		n := strconv.Itoa(rnd.Intn(4))
		kid := randomText(rnd, 3)
		if depth > 0 && rnd.Intn(2) == 0 {
			kid = randomSnippet(rnd, depth-1)
		}
		b.WriteString([]string{
			"a", "\n\tb", "$" + n, "$" + n, "${" + n + ":" + kid + "}", "${" + n + ":" + kid + "}", "${" + n + "|u,ab,|}", "${" + n + "/[a-x]/<$0>/g}",
			"${" + n + "/(.)(.*)/$2$1/}", "${" + n + "/^/y/}", "${V" + n + ":" + kid + "}", "$W" + n, "${TM_SELECTED_TEXT}", "$TM_CURRENT_WORD", "-", "${TM_SELECTED_TEXT:" + kid + "}",
		}[rnd.Intn(16)])
	}
	return b.String()
}

func randomOp(rnd *rand.Rand, size int) api.Op {
	at := func() int { return rnd.Intn(size+3) - 1 }
	switch rnd.Intn(20) {
	case 0:
		return api.Op{Kind: api.OpSet, Name: []string{"V1", "INDENT", "TM_FILEPATH", "9"}[rnd.Intn(4)], Text: randomText(rnd, 4)}
	case 1, 2, 3, 4:
		return api.Op{Kind: api.OpType, Text: randomText(rnd, 4)}
	case 5, 6:
		return api.Op{Kind: api.OpErase, N: rnd.Intn(2)}
	case 7, 8:
		o := api.Op{Kind: api.OpEdit}
		for range rnd.Intn(4) {
			from := at()
			o.Edits = append(o.Edits, api.Edit{Span: api.Span{From: from, To: from + rnd.Intn(3)}, Text: randomText(rnd, 3)})
		}
		return o
	case 9, 10:
		o := api.Op{Kind: api.OpSelect}
		for range rnd.Intn(4) {
			from := at()
			o.Sels = append(o.Sels, api.Sel{Anchor: from, Head: from + rnd.Intn(5) - 2})
		}
		return o
	case 11, 12:
		return api.Op{Kind: api.OpMove, N: rnd.Intn(12), Extend: rnd.Intn(2) == 0}
	case 13, 14, 15, 16:
		return api.Op{Kind: api.OpInsert, Text: randomSnippet(rnd, 2)}
	case 17:
		return api.Op{Kind: api.OpChoose, N: rnd.Intn(4)}
	case 18:
		return api.Op{Kind: api.OpUndo + rnd.Intn(2)}
	}
	return api.Op{Kind: api.OpNext + rnd.Intn(3)}
}
