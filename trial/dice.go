// Package trial: what the tests of the views on a transaction share: drawn numbers, stores to begin with, and power cuts at every call. No other package of the program calls it.
package trial

// Dice draws numbers, the same ones in every run.
type Dice uint64

// NewDice begins a row of numbers.
func NewDice(seed int) *Dice {
	d := Dice(seed)
	return &d
}

// Below draws a number from 0 to n - 1.
func (d *Dice) Below(n int) int {
	*d = *d*6364136223846793005 + 1442695040888963407
	return int(uint64(*d)>>33) % n
}

// Bytes draws so many bytes.
func (d *Dice) Bytes(n int) []byte {
	list := make([]byte, n)
	for i := range list {
		list[i] = byte(d.Below(256))
	}
	return list
}

// One draws one of a list.
func One[V any](d *Dice, list ...V) V { return list[d.Below(len(list))] }
