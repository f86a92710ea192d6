package disk

import (
	"maps"
	"slices"

	"exchequer/api"
	"exchequer/name"
)

// file is what a disk has under a name.
type file struct {
	bytes   []byte
	durable int // how many of the bytes, from the first on, are synced
}

// Append appends b to a file, and creates the file if it does not exist.
func (d *Disk) Append(name string, b string) api.Errno {
	if err := d.perform(d.refused(name, len(b))); err != api.OK {
		return err
	}
	f, ok := d.files[name]
	if !ok {
		f = d.create(name)
	}
	f.bytes = append(f.bytes, b...)
	d.used += len(b)
	return api.OK
}

// Sync makes all bytes of a file durable.
func (d *Disk) Sync(name string) api.Errno {
	f, err := d.find(name)
	if err = d.perform(err); err != api.OK {
		return err
	}
	f.durable = len(f.bytes)
	return api.OK
}

// Cut truncates a file to its first size bytes.
func (d *Disk) Cut(name string, size int) api.Errno {
	f, err := d.find(name)
	if err == api.OK && (size < 0 || size > len(f.bytes)) {
		err = api.ErrArg
	}
	if err = d.perform(err); err != api.OK {
		return err
	}
	d.truncate(f, size)
	return api.OK
}

// Remove removes a file.
func (d *Disk) Remove(name string) api.Errno {
	f, err := d.find(name)
	if err = d.perform(err); err != api.OK {
		return err
	}
	d.used -= len(f.bytes)
	delete(d.files, name)
	return api.OK
}

// Read returns all bytes of a file, synced or not.
func (d *Disk) Read(name string) (string, api.Errno) {
	f, err := d.find(name)
	if err != api.OK {
		return "", err
	}
	return string(f.bytes), api.OK
}

// Names returns the names of all files in ascending order.
func (d *Disk) Names() []string {
	if d.Down() {
		return nil
	}
	return d.sorted()
}

// Used returns the total size of all files.
func (d *Disk) Used() int {
	if d.Down() {
		return 0
	}
	return d.used
}

// refused returns why size bytes can't be appended to a file, OK if they can.
func (d *Disk) refused(file string, size int) api.Errno {
	switch {
	case d.Down():
		return api.ErrDown
	case !name.Right(file):
		return api.ErrName
	case d.used+size > d.room: // so it is without any bytes, too, where the room was made less
		return api.ErrFull
	}
	return api.OK
}

// find returns a file.
func (d *Disk) find(name string) (*file, api.Errno) {
	if d.Down() {
		return nil, api.ErrDown
	}
	f, ok := d.files[name]
	if !ok {
		return nil, api.ErrGone
	}
	return f, api.OK
}

// create returns a new file.
func (d *Disk) create(name string) *file {
	if d.files == nil {
		d.files = map[string]*file{}
	}
	f := new(file)
	d.files[name] = f
	return f
}

// truncate leaves a file its first size bytes.
func (d *Disk) truncate(f *file, size int) {
	d.used -= len(f.bytes) - size
	f.bytes = f.bytes[:size]
	f.durable = min(f.durable, size)
}

// sorted returns the names of all files in ascending order, whether or not the power is on.
func (d *Disk) sorted() []string { return slices.Sorted(maps.Keys(d.files)) }
