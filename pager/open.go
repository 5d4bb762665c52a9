package pager

import (
	"bytes"
	"slices"

	"wainscot/api"
	"wainscot/disk"
	"wainscot/journal"
)

// Open answers the pager of a disk's last commit.
func Open(d *disk.Disk, cache int) (*Pager, api.Errno) {
	if d == nil || cache < minCache || cache > api.MaxCache {
		return nil, api.ErrArg
	}
	b, e := d.Read(fileJournal, 0, d.Size(fileJournal))
	if e != api.OK {
		return nil, e
	}
	l := left{d: d}
	l.found, l.telling = journal.Read(b)
	// What is no database is left as it is.
	s, e := l.state()
	if e != api.OK {
		return nil, e
	}
	if e := l.restore(); e != api.OK {
		return nil, e
	}
	p := &Pager{d: d, most: cache, last: s, home: l.pages, frames: map[int]*frame{}}
	p.become(s.clone())
	p.forget()
	return p, api.OK
}

// left is what a crash left: the file, and the journal, if it tells something.
type left struct {
	d       *disk.Disk
	found   journal.Found
	telling bool
	pages   int
}

// state answers the state of the last commit; it sets how many pages the file has then.
func (l *left) state() (state, api.Errno) {
	size := l.d.Size(fileData)
	l.pages = size / api.PageSize
	if l.telling {
		l.pages = l.found.Pages
	}
	if l.pages > size/api.PageSize || !l.telling && size%api.PageSize != 0 {
		return state{}, api.ErrBad
	}
	if l.pages == 0 {
		return state{pages: 1}, api.OK
	}
	head, e := l.content(0)
	if e != api.OK {
		return state{}, e
	}
	s, top, right := readHead(head)
	if !right || s.pages != l.pages {
		return state{}, api.ErrBad
	}
	return s, l.stack(s.free, top)
}

// stack fills in the numbers of the free pages, from the one on top on.
func (l *left) stack(free []int, top int) api.Errno {
	for i := len(free) - 1; i >= 0; i-- {
		if top < 1 || top >= l.pages {
			return api.ErrBad
		}
		free[i] = top
		b, e := l.content(top)
		if e != api.OK {
			return e
		}
		top = nextFree(b)
		if !bytes.Equal(b, freeContent(top)) {
			return api.ErrBad
		}
	}
	// A stack that came to a page twice would go on for ever, so that it wouldn't end here.
	if top != 0 {
		return api.ErrBad
	}
	return api.OK
}

// content answers a page's content as the journal restores it.
func (l *left) content(n int) ([]byte, api.Errno) {
	if i := slices.Index(l.found.Numbers, n); i >= 0 {
		return l.right(n, l.found.Data[i])
	}
	b, e := l.d.Read(fileData, n*api.PageSize, api.PageSize)
	if e != api.OK {
		return nil, e
	}
	return l.right(n, b)
}

func (l *left) right(n int, b []byte) ([]byte, api.Errno) {
	data, ok := content(n, b)
	if !ok {
		return nil, api.ErrBad
	}
	return data, api.OK
}

// restore does what the journal says, and then lets it go: should the power go before, all is done again.
func (l *left) restore() api.Errno {
	if l.telling {
		if e := l.writeBack(); e != api.OK {
			return e
		}
	}
	if l.d.Size(fileJournal) > 0 {
		return l.d.Truncate(fileJournal, 0)
	}
	return api.OK
}

func (l *left) writeBack() api.Errno {
	// Of several records of one page the first one is what was committed.
	for i := len(l.found.Numbers) - 1; i >= 0; i-- {
		n := l.found.Numbers[i]
		if n >= l.pages {
			continue
		}
		if e := l.d.Write(fileData, n*api.PageSize, l.found.Data[i]); e != api.OK {
			return e
		}
	}
	return l.d.Truncate(fileData, l.pages*api.PageSize)
}
