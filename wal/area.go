package wal

import (
	"vellum/api"
	"vellum/disk"
	"vellum/seal"
)

// slots is how many anchors lie ahead of the ring.
const slots = 2

// An anchor's number is the epoch above the tail, so that a later state always has the greater number.
const (
	tailBits = 32
	tailMask = 1<<tailBits - 1
)

// area is where a log lies.
type area struct {
	disk     *disk.Disk
	first, n int // the sector of slot 0; the sectors of the ring
}

// refusal says why no log can lie there.
func (a area) refusal() api.Errno {
	switch sectors := a.disk.Sectors(); {
	case a.disk.Burnt():
		return api.ErrDead
	case a.first < 0 || a.first >= sectors:
		return api.ErrRange
	case a.n < api.MinLog || a.n > api.MaxLog:
		return api.ErrArg
	case a.end() > sectors:
		return api.ErrRange
	}
	return api.OK
}

// end is the sector behind the last one.
func (a area) end() int { return a.first + slots + a.n }

// at is the sector in which a position lies.
func (a area) at(position int) int { return a.first + slots + position%a.n }

// wipe flushes too: the anchor that comes next is the second write of its sector.
func (a area) wipe() api.Errno {
	zeros := make([]byte, api.Size)
	for at := a.first; at < a.end(); at++ {
		if e := a.disk.Write(at, zeros); e != api.OK {
			return e
		}
	}
	return a.disk.Flush()
}

// pair reads the two anchors.
func (a area) pair() ([]byte, []byte, api.Errno) {
	left, e := a.disk.Read(a.first)
	if e != api.OK {
		return nil, nil, e
	}
	right, e := a.disk.Read(a.first + 1)
	if e != api.OK {
		return nil, nil, e
	}
	return left, right, api.OK
}

// newest tells the epoch and the tail of the pair's newest anchor.
func (a area) newest() (int, int, api.Errno) {
	left, right, e := a.pair()
	if e != api.OK {
		return 0, 0, e
	}
	_, number, data, e := seal.Newest(left, right)
	epoch, tail := number>>tailBits, number&tailMask
	if e != api.OK || len(data) > 0 || epoch < 1 || epoch > api.MaxEpoch || tail > api.MaxPos {
		return 0, 0, api.ErrCorrupt
	}
	return epoch, tail, api.OK
}

// renew writes the next anchor. The flush behind it keeps the other one whole on the disk for as long as this one may be torn.
func (a area) renew(epoch, tail int) api.Errno {
	left, right, e := a.pair()
	if e != api.OK {
		return e
	}
	slot, anchor, e := seal.Renew(left, right, epoch<<tailBits+tail, nil)
	if e != api.OK {
		return e
	}
	if e := a.disk.Write(a.first+slot, anchor); e != api.OK {
		return e
	}
	return a.disk.Flush()
}

// put seals a piece over what lies in its place, so that a torn write of it is told. If the disk burnt under the piece before, it is the read that is refused.
func (a area) put(p piece) api.Errno {
	at := a.at(p.position)
	old, e := a.disk.Read(at)
	if e != api.OK {
		return e
	}
	sector, e := seal.Seal(old, p.body())
	if e != api.OK {
		return e
	}
	return a.disk.Write(at, sector)
}

// ring reads all sectors behind the anchors, each of them once.
func (a area) ring() (ring, api.Errno) {
	r := make(ring, a.n)
	for i := range r {
		sector, e := a.disk.Read(a.at(i))
		if e != api.OK {
			return nil, e
		}
		r[i] = pieceOf(sector)
	}
	return r, api.OK
}
