package pager

import (
	"wainscot/api"
	"wainscot/journal"
)

// headsSize is how many bytes a journal has ahead of its records; both heads have as many.
const headsSize = 128

// frame is a content in the cache; a dirty one lies nowhere else.
type frame struct {
	data  []byte
	dirty bool
	used  int
}

// Cached answers how many contents the cache holds, those for the mark, too.
func (p *Pager) Cached() int {
	if p.nothing() {
		return 0
	}
	if p.mark == nil {
		return len(p.frames)
	}
	return len(p.frames) + len(p.mark.data)
}

func (p *Pager) touch(f *frame) {
	p.clock++
	f.used = p.clock
}

func (p *Pager) keep(n int, data []byte, dirty bool) {
	f := &frame{data: data, dirty: dirty}
	p.touch(f)
	p.frames[n] = f
}

// kept tells whether the mark knows what a page was.
func (p *Pager) kept(n int) bool {
	if p.mark == nil {
		return true
	}
	_, kept := p.mark.places[n]
	return kept
}

// asksRoom tells whether a page's new content is one more in the cache.
func (p *Pager) asksRoom(n int) bool {
	f := p.frames[n]
	return f == nil || f.dirty && !p.kept(n)
}

// leave lets a page have no content any more, but keeps what it was at the mark.
func (p *Pager) leave(n int) {
	if p.kept(n) {
		p.drop(n)
		return
	}
	if f := p.frames[n]; f != nil && f.dirty {
		p.mark.data[n] = f.data
	}
	p.mark.places[n] = p.places[n]
	delete(p.frames, n)
	delete(p.places, n)
}

// drop lets go of a page's content.
func (p *Pager) drop(n int) {
	delete(p.frames, n)
	if place, ok := p.places[n]; ok {
		p.spare = append(p.spare, place)
		delete(p.places, n)
	}
}

// dropMark lets go of the mark, and of what is kept for it alone.
func (p *Pager) dropMark() {
	if p.mark == nil {
		return
	}
	for _, n := range sorted(p.mark.places) {
		if place := p.mark.places[n]; place != 0 {
			p.spare = append(p.spare, place)
		}
	}
	p.mark = nil
}

// dropClean makes room for one more content, if that costs nothing: it tells whether there is room.
func (p *Pager) dropClean() bool {
	for p.Cached() >= p.most {
		n := p.oldest(false)
		if n == 0 {
			return false
		}
		delete(p.frames, n)
	}
	return true
}

// makeRoom makes room for one more content, if need be by writing one behind the database.
func (p *Pager) makeRoom() api.Errno {
	for !p.dropClean() {
		if e := p.spill(); e != api.OK {
			return e
		}
	}
	return api.OK
}

// oldest answers the page that wasn't asked for longest, among the dirty frames or the others: 0, if there is none.
func (p *Pager) oldest(dirty bool) int {
	found := 0
	for n, f := range p.frames {
		if f.dirty == dirty && (found == 0 || f.used < p.frames[found].used) {
			found = n
		}
	}
	return found
}

// spill lets one content leave the cache for a place behind the database: first such as only Undo may ask for.
func (p *Pager) spill() api.Errno {
	if p.mark != nil && len(p.mark.data) > 0 {
		n := sorted(p.mark.data)[0]
		place, e := p.store(n, p.mark.data[n])
		if e != api.OK {
			return e
		}
		delete(p.mark.data, n)
		p.mark.places[n] = place
		return api.OK
	}
	n := p.oldest(true)
	place, e := p.store(n, p.frames[n].data)
	if e != api.OK {
		return e
	}
	delete(p.frames, n)
	p.places[n] = place
	return api.OK
}

// store writes a content at a place behind the database, and answers the place.
func (p *Pager) store(n int, data []byte) (int, api.Errno) {
	place := p.ends
	if len(p.spare) > 0 {
		place = p.spare[len(p.spare)-1]
	}
	if p.growth(0, place+1) > p.d.Left() {
		return 0, api.ErrFull
	}
	if e := p.begin(); e != api.OK {
		return 0, e
	}
	if e := p.extend(place); e != api.OK {
		return 0, e
	}
	if e := p.d.Write(fileData, place*api.PageSize, page(n, data)); e != api.OK {
		return 0, e
	}
	if place == p.ends {
		p.ends++
	} else {
		p.spare = p.spare[:len(p.spare)-1]
	}
	return place, api.OK
}

// growth answers how many bytes the files grow by that many more records, and up to that many pages.
func (p *Pager) growth(records, pages int) int {
	n := records*recordSize + max(0, pages*api.PageSize-p.d.Size(fileData))
	if !p.begun {
		n += headsSize
	}
	return n
}

// begin lets the journal tell how many pages the database has, before anything is written behind them.
func (p *Pager) begin() api.Errno {
	if p.begun {
		return api.OK
	}
	head, e := journal.Head(p.salt(), p.home, 0)
	if e != api.OK {
		return e
	}
	if e := p.d.Write(fileJournal, 0, append(head, make([]byte, headsSize-len(head))...)); e != api.OK {
		return e
	}
	p.begun = true
	return p.d.Sync(fileJournal)
}

// salt tells this commit's journal from those of others.
func (p *Pager) salt() uint64 { return p.last.commits + 1 }

// extend lets the file have that many pages at least.
func (p *Pager) extend(pages int) api.Errno {
	for size := p.d.Size(fileData); size < pages*api.PageSize; size += api.PageSize {
		if e := p.d.Write(fileData, size, make([]byte, api.PageSize)); e != api.OK {
			return e
		}
	}
	return api.OK
}

// read answers a page's content from the file.
func (p *Pager) read(n int) ([]byte, api.Errno) {
	place, moved := p.places[n]
	if !moved {
		place = n
	}
	b, e := p.readPlace(place)
	if e != api.OK {
		return nil, e
	}
	data, right := content(n, b)
	if !right {
		return nil, api.ErrBad
	}
	return data, api.OK
}

// readPlace answers the bytes of the page at a place; ErrBad, if the file doesn't go so far.
func (p *Pager) readPlace(place int) ([]byte, api.Errno) {
	b, e := p.d.Read(fileData, place*api.PageSize, api.PageSize)
	if e == api.ErrArg {
		return nil, api.ErrBad
	}
	return b, e
}
