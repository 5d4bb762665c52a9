package pager

import (
	"bytes"
	"slices"

	"wainscot/api"
	"wainscot/bigend"
	"wainscot/journal"
)

const (
	sumSize     = 4
	contentSize = api.PageSize - sumSize
	numberSize  = 4
)

// headMark is what a head begins with.
const headMark = "wainscot"

// padded answers b, and noughts behind it, as a content.
func padded(b []byte) []byte {
	content := make([]byte, contentSize)
	copy(content, b)
	return content
}

// page answers a page's bytes: its content and its sum.
func page(n int, content []byte) []byte {
	b := slices.Concat(content, make([]byte, sumSize))
	copy(b[contentSize:], bigend.Append(nil, uint64(sum(n, content)), sumSize))
	return b
}

func sum(n int, content []byte) uint32 {
	return journal.Sum(append(bigend.Append(nil, uint64(n), numberSize), content...))
}

// content answers the content of a page's bytes, and whether their sum is right.
func content(n int, b []byte) ([]byte, bool) {
	if len(b) != api.PageSize || uint64(sum(n, b[:contentSize])) != bigend.Number(b[contentSize:]) {
		return nil, false
	}
	return slices.Clone(b[:contentSize]), true
}

// freeContent is a free page's content: the number of the one below it in the stack.
func freeContent(below int) []byte {
	return padded(bigend.Append(nil, uint64(below), numberSize))
}

// headContent is the head's content.
func headContent(s state) []byte {
	b := bigend.Append([]byte(headMark), s.commits, 8)
	b = bigend.Append(b, uint64(s.pages), numberSize)
	b = bigend.Append(b, uint64(len(s.free)), numberSize)
	b = bigend.Append(b, uint64(below(s.free, len(s.free))), numberSize)
	for _, root := range s.roots {
		b = bigend.Append(b, uint64(root), numberSize)
	}
	return padded(b)
}

// below answers the page below a place of the stack: 0, if there is none.
func below(stack []int, i int) int {
	if i == 0 {
		return 0
	}
	return stack[i-1]
}

// readHead answers the state of a head's content, its stack filled with as many zeros as there are free pages; the last
// number is the page on top. It is right only if what comes of it is written as it stands there.
func readHead(b []byte) (state, int, bool) {
	next := func(size int) int {
		n := bigend.Number(b[:size])
		b = b[size:]
		return int(n)
	}
	if !bytes.HasPrefix(b, []byte(headMark)) {
		return state{}, 0, false
	}
	b = b[len(headMark):]
	s := state{commits: bigend.Number(b[:8])}
	b = b[8:]
	s.pages = next(numberSize)
	count := next(numberSize)
	top := next(numberSize)
	if s.pages < 1 || s.pages > api.MaxPages || count >= s.pages {
		return state{}, 0, false
	}
	s.free = make([]int, count)
	for i := range s.roots {
		s.roots[i] = next(numberSize)
		if s.roots[i] >= api.MaxPages {
			return state{}, 0, false
		}
	}
	return s, top, len(bytes.Trim(b, "\x00")) == 0
}

// nextFree answers the number that a free page's content tells.
func nextFree(b []byte) int { return int(bigend.Number(b[:numberSize])) }
