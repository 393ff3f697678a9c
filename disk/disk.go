// Package disk: a simulated disk with a volatile write cache: see the chapter 01-disk.md.
package disk

import (
	"bytes"
	"slices"

	"vellum/api"
)

// noFuse stands for a fuse that never burns; a fuse at 0 is burnt.
const noFuse = -1

// Disk is a disk of sectors of 512 bytes.
type Disk struct {
	image   []byte
	pending map[int][][]byte // a sector's unflushed writes, oldest first; no sector stands here without one
	fuse    int              // Writes and Flushes that are left, or noFuse
	life    int
	counts  api.Counts // but for Pending, which is told by the map
}

// New makes a disk whose sectors all hold zeros.
func New(sectors int) (*Disk, api.Errno) {
	if sectors < 1 || sectors > api.MaxSectors {
		return nil, api.ErrSectors
	}
	return over(make([]byte, sectors*api.Size)), api.OK
}

// Load makes a disk that durably holds a copy of the image.
func Load(image []byte) (*Disk, api.Errno) {
	if len(image)%api.Size != 0 {
		return nil, api.ErrLength
	}
	if len(image) == 0 || len(image) > api.Size*api.MaxSectors {
		return nil, api.ErrSectors
	}
	return over(bytes.Clone(image)), api.OK
}

// over makes a fresh disk of an image that nobody else has.
func over(image []byte) *Disk {
	return &Disk{image: image, pending: map[int][][]byte{}, fuse: noFuse, life: 1}
}

// Read tells the newest content of a sector.
func (d *Disk) Read(at int) ([]byte, api.Errno) {
	if d.Burnt() {
		return nil, api.ErrDead
	}
	if !d.has(at) {
		return nil, d.refuse(api.ErrRange)
	}
	d.counts.Reads++
	return bytes.Clone(d.candidate(at, len(d.pending[at]))), api.OK
}

// Write takes a sector's new content into the cache.
func (d *Disk) Write(at int, data []byte) api.Errno {
	if d.Burnt() {
		return api.ErrDead
	}
	if !d.has(at) {
		return d.refuse(api.ErrRange)
	}
	if len(data) != api.Size {
		return d.refuse(api.ErrLength)
	}
	d.pending[at] = append(d.pending[at], bytes.Clone(data))
	d.counts.Writes++
	d.spend()
	return api.OK
}

// Flush makes all that was written durable.
func (d *Disk) Flush() api.Errno {
	if d.Burnt() {
		return api.ErrDead
	}
	for at, writes := range d.pending {
		copy(d.durable(at), writes[len(writes)-1])
	}
	clear(d.pending)
	d.counts.Flushes++
	d.spend()
	return api.OK
}

// Fuse says how many calls more the disk has power for.
func (d *Disk) Fuse(calls int) {
	if d.Burnt() {
		return
	}
	d.fuse = max(calls, noFuse)
}

// Crash cuts the power: the picks say what becomes of each sector with unflushed writes; then the power is back.
func (d *Disk) Crash(picks []api.Pick) {
	for i, at := range d.unflushed() {
		var pick api.Pick
		if len(picks) > 0 {
			pick = picks[i%len(picks)]
		}
		d.tear(at, pick)
	}
	clear(d.pending)
	d.fuse = noFuse
	d.life++
}

// Burnt says whether the disk is without power.
func (d *Disk) Burnt() bool { return d.fuse == 0 }

// Sectors tells how many sectors the disk has.
func (d *Disk) Sectors() int { return len(d.image) / api.Size }

// Take begins a new life of the disk and tells its number.
func (d *Disk) Take() int {
	d.life++
	return d.life
}

// Life tells the number of the disk's life.
func (d *Disk) Life() int { return d.life }

// Image tells the durable content of all sectors.
func (d *Disk) Image() []byte { return bytes.Clone(d.image) }

// Counts tells what the disk has been asked.
func (d *Disk) Counts() api.Counts {
	counts := d.counts
	for _, writes := range d.pending {
		counts.Pending += len(writes)
	}
	return counts
}

func (d *Disk) has(at int) bool { return at >= 0 && at < d.Sectors() }

func (d *Disk) refuse(e api.Errno) api.Errno {
	d.counts.Refused++
	return e
}

// spend takes one call from the fuse, if there is one.
func (d *Disk) spend() {
	if d.fuse > 0 {
		d.fuse--
	}
}

// unflushed tells the sectors with pending writes, in rising order: which pick is whose hangs on it.
func (d *Disk) unflushed() []int {
	var sectors []int
	for at := range d.pending {
		sectors = append(sectors, at)
	}
	slices.Sort(sectors)
	return sectors
}

// tear makes durable what the pick leaves of a sector.
func (d *Disk) tear(at int, pick api.Pick) {
	candidates := len(d.pending[at]) + 1
	a := d.candidate(at, max(pick.A, 0)%candidates)
	b := d.candidate(at, max(pick.B, 0)%candidates)
	cut := max(pick.Cut, 0) % (api.Size + 1)
	// A candidate may be the durable sector itself: every byte keeps its place, so none is lost before it is read.
	into := d.durable(at)
	copy(into[:cut], a[:cut])
	copy(into[cut:], b[cut:])
}

// candidate is what a sector held behind its k-th pending write; behind none of them, what is durable.
func (d *Disk) candidate(at, k int) []byte {
	if k == 0 {
		return d.durable(at)
	}
	return d.pending[at][k-1]
}

// durable is the sector's own part of the image, with no room behind it.
func (d *Disk) durable(at int) []byte {
	from, to := at*api.Size, (at+1)*api.Size
	return d.image[from:to:to]
}
